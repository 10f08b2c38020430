import PyProof.Rows.All
import Wide.All
import OpenK.AllK
import Wide.FinOn
import HandS.ForMost
import HandS.Wide
import HandS.More
import HandS.IsInst
import HandS.StrMore
import HandS.TupSets
import HandS.SetFor
import KE.SortData
import HandS.SetKeys
import HandS.SetBool
import HandS.DictComp
import HandS.Iter
import KE.GoesMore
import HandS.Words
import HandS.ExcOwn
import HandS.OwnEq
import KE.KExcSuper
import HandS.ForExc
import HandS.FStr
import HandS.ExcInit
import HandS.ExcField
import HandS.Steps
import HandS.Walk
import HandS.Codes
import HandS.BoundDict
import HandS.TupAny
import HandS.Zip
import HandS.Comp
import HandS.NoneIn
import KE.KeyNested
import KE.KDictKeyed
import KE.KDictDisplayH
import KE.KDictList
import HandS.Call
import HandS.List
import HandS.Dict
import HandS.Style
import HandS.Small
import HandS.Gcd
import HandS.Deep
import HandS.MethStar
import HandS.IterNext
import HandS.OwnIter
import HandS.MakeKwOnly
import HandS.Ends
import KE.KStateDown
import PySem.Challenge.RW_allbrokers_k06_whole_outside
set_option Elab.async false
set_option linter.all false
set_option maxRecDepth 100000
section
/-! The law's own drawing of numbers. -/
namespace K1
open PySem L2
def top (i : Nat) : Stmt := PySem.Challenge.pw_allbrokers_k06_whole_outside.main.body.getD i (.Pass ⟨0, 0, 0, 0⟩)
abbrev sDraw : Stmt := top 30

/-! ### the mathematics -/
def rowOf (ns : List Int) : List Int := if ns = [] then [7] else ns.take 60
def cellAt (ns : List Int) (p : Int) : Int := (rowOf ns).getD (p % ((rowOf ns).length : Int)).toNat 0
def turnAt (ns : List Int) (p : Int) : Int := p / ((rowOf ns).length : Int)
/-- the number drawn at a place -/
def draw (ns : List Int) (p m : Int) : Int :=
  if 10 ^ 18 ≤ cellAt ns p then (cellAt ns p % 97 ^ 40 / 97 ^ (turnAt ns p % 40).toNat) % 97 % m
  else ((((cellAt ns p + 31 * turnAt ns p) % 1000003 + 977 * p + 13) * 48271 + cellAt ns p / 1000003 % 999983) % 2147483647 * 65537 % 4294967291) % m
theorem draw_lt (ns : List Int) (p : Int) {m : Int} (h : 0 < m) : 0 ≤ draw ns p m ∧ draw ns p m < m := by
  unfold draw
  split
  · exact ⟨Int.emod_nonneg _ (by omega), Int.emod_lt_of_pos _ h⟩
  · exact ⟨Int.emod_nonneg _ (by omega), Int.emod_lt_of_pos _ h⟩
theorem row_pos (ns : List Int) : 0 < (rowOf ns).length := by
  unfold rowOf
  split
  · decide
  · rename_i h
    rw [List.length_take]
    have : 0 < ns.length := List.length_pos_iff.mpr h
    omega
theorem row_le (ns : List Int) : (rowOf ns).length ≤ 60 := by
  unfold rowOf
  split
  · decide
  · rw [List.length_take]; omega
theorem eqv_ints_nil (ns : List Int) : PyData.eqv (.list (ns.map .int)) (.list []) = decide (ns = []) := by
  cases ns <;> rfl
/-! ### the promise -/
def spDraw (K : PySem.W.Frag) : Sp := fun vs H Q _ => ∃ (a : Addr) (ns : List Int) (p m : Int), vs = [.ref a, .int p, .int m] ∧ SqL K H a (ns.map V.int) ∧ ns.length ≤ 63 ∧ 0 ≤ p ∧ p ≤ 100000 ∧ 0 < m ∧
  ∀ H', Same H H' → Q (.int (draw ns p m)) H'
theorem dp_ints {K : PySem.W.Frag} {H : Hp} : ∀ ns : List Int, DpAll K H (ns.map V.int) (ns.map .int)
  | [] => .nil
  | n :: ns => .cons (.int n) (dp_ints ns)
theorem canLay_ints : ∀ ns : List Int, PyData.canLayAll0 (ns.map .int) = true
  | [] => rfl
  | n :: ns => by
    show (PyData.canLay0 (.int n) && PyData.canLayAll0 (ns.map .int)) = true
    rw [canLay_ints ns]; rfl
theorem depth_ints : ∀ ns : List Int, PyData.depthAll (ns.map .int) = 0
  | [] => rfl
  | n :: ns => by rw [List.map_cons, PyData.depthAll, depth_ints ns]; rfl
theorem shaped_ints (ns : List Int) : SeqAt.shaped (.list (ns.map .int)) = true := by
  unfold SeqAt.shaped
  have e1 : PyData.canLay0 (.list (ns.map .int)) = true := canLay_ints ns
  have e2 : PyData.depth (.list (ns.map .int)) = 1 := by show PyData.depthAll _ + 1 = 1; rw [depth_ints]
  rw [e1, e2]; rfl
theorem same_new {H : Hp} {p : Addr} {o : HO} (h : H p = none) : Same H (upd H p o) := fun b u e => by rw [upd_ne (ne_of_none e h)]; exact e
theorem cut_ints (ns : List Int) : cutV (ns.map V.int) none (some 60) = (ns.take 60).map V.int := by
  unfold cutV
  show (List.take (min (60 : Int).toNat _ - 0) (List.drop 0 _)) = _
  rw [List.drop_zero, List.length_map, Nat.sub_zero, ← List.map_take]
  show List.map V.int (List.take (min 60 ns.length) ns) = _
  congr 1
  rcases Nat.le_total 60 ns.length with h | h
  · rw [Nat.min_eq_left h]
  · rw [Nat.min_eq_right h, List.take_length, List.take_of_length_le h]
/-- row = script[:60] if script != [] else [7] -/
theorem reads_row {K : PySem.W.Frag} {σ : L2.St} {H : Hp} {R : VK} {a : Addr} {ns : List Int} (hσ : σ[0]? = some (some (V.ref a))) (hS : SqL K H a (ns.map V.int))
    (h : ∀ l H', Same H H' → H' l = some (.lst ((rowOf ns).map V.int)) → R (.ref l) H') :
    tIf (tTest (tOp (rNeD K) (tVar 0) (tLst tNil))) (tSl (rSlL K) (tVar 0) tNoPart (tPart (tC (V.int 60)))) (tLst (tCons (tC (V.int 7)) tNil)) σ H R := by
  refine ⟨_, hσ, Nat.zero_le _, fun l hl => ?_⟩
  have s1 := same_new (o := .lst []) hl
  refine ⟨.list (ns.map .int), .list [], .lst (s1.seq hS) (dp_ints ns), .lst (SqL.of upd_same) .nil, shaped_ints ns, rfl, _, rfl, ?_⟩
  rw [eqv_ints_nil]
  rcases Decidable.em (ns = []) with e | e
  · rw [decide_eq_true e]
    refine iteF ⟨by show 1 ≤ sizeLine; decide, fun l2 hl2 => h l2 _ (s1.trans (same_new hl2)) ?_⟩
    rw [upd_same]; unfold rowOf; rw [if_pos e]; rfl
  · rw [decide_eq_false e]
    refine iteT ⟨_, hσ, _, rfl, a, _, rfl, s1.seq hS, fun l2 hl2 => h l2 _ (s1.trans (same_new hl2)) ?_⟩
    rw [upd_same, cut_ints]; unfold rowOf; rw [if_neg e]
theorem div_pow (x : Int) (j : Nat) : x / 97 ^ j / 97 = x / 97 ^ (j + 1) := by
  rw [Int.ediv_ediv_of_nonneg (Int.pow_nonneg (by decide)), Int.pow_succ]
structure TxtL (mg : Str → Option Value) : Prop where
  len : mg "len" = none
  int : mg "int" = none
  range : mg "range" = none
section
variable {P : Program} {w : World} {K : PySem.W.Frag} {mg : Str → Option Value} {base : Heap}
abbrev nDraw : List Str := ["script", "at", "many", "row", "cell", "turn", "step", "mixed"]
theorem scDraw : FnScope nDraw ["script", "at", "many"] (defScope sDraw) := ⟨rfl, rfl, rfl, by decide +kernel, rfl, by decide +kernel, by decide +kernel⟩
theorem ok_draw {f : Addr} {fd : FuncData} (F : Fun K "_law_draw" "_law_draw" sDraw f fd) (T : TxtL mg) : FnOk P w K mg base CX0 1 f fd ["script", "at", "many"] (spDraw K) := by
  refine F.ok scDraw (fun vs H Q E h => ?_) (fun cdv A outer s H vs Q E hr h => ?_)
  · obtain ⟨a, ns, p, m, rfl, _⟩ := h
    rfl
  · obtain ⟨a, ns, p, m, rfl, hS, hl, p0, p1, m0, k⟩ := h
    have hu := hr.units
    have nd := scDraw.nd
    refine ⟨_, (pss_cons (ps_set (i := 3) nd rfl (Or.inl rfl) (pe_ifExp (pt_cmpR (op_neD hu) (pv 0) (pe_lst pa_nil) (nomark _)) (pe_slice sl_list (pv 0) po_none (po_some pe_int)) (pe_lst (pa_cons pe_int pa_nil))))
      (pss_cons (ps_par (i := 4) (j := 5) (by rfl) nd rfl rfl (by decide) rfl rfl (pa_cons (pe_ix ix_list (pv 3) (pe_op op_mod (pv 1) (pe_callB call_len_seq (by rfl) T.len PySem.boot_len (pa_cons (pv 3) pa_nil))) (fun _ _ => rfl)) (pa_cons (pe_op op_fdiv (pv 1) (pe_callB call_len_seq (by rfl) T.len PySem.boot_len (pa_cons (pv 3) pa_nil))) pa_nil)) (by rfl))
      (pss_cons (ps_if (pt_cmpR op_ge (pv 4) (pe_op op_pow pe_int pe_int) (nomark _))
        (pss_cons (ps_set (i := 4) nd rfl (Or.inl rfl) (pe_op op_mod (pe_callTy call_int1 (by rfl) T.int PyProof.Rows.boot_int (pa_cons (pv 4) pa_nil)) (pe_op op_pow pe_int pe_int)))
        (pss_cons (ps_for PassesOwn.never rfl (pi_range1 (by rfl) T.range (pa_cons (pe_op op_mod (pv 5) pe_int) pa_nil)) (pg_name (i := 6) nd rfl (Or.inl rfl))
          (pss_one (ps_set (i := 4) nd rfl (Or.inl rfl) (pe_op op_fdiv (pv 4) pe_int))))
        (pss_one (ps_ret (pe_op op_mod (pe_op op_mod (pe_callTy call_int1 (by rfl) T.int PyProof.Rows.boot_int (pa_cons (pv 4) pa_nil)) pe_int) (pv 2))))))
        pss_nil)
      (pss_cons (ps_set (i := 7) nd rfl (Or.inl rfl) (pe_op op_add (pe_op op_mul (pe_op op_add (pe_op op_add (pe_op op_mod (pe_callTy call_int1 (by rfl) T.int PyProof.Rows.boot_int (pa_cons (pe_op op_add (pv 4) (pe_op op_mul pe_int (pv 5))) pa_nil)) pe_int) (pe_op op_mul pe_int (pv 1))) pe_int) pe_int) (pe_op op_mod (pe_callTy call_int1 (by rfl) T.int PyProof.Rows.boot_int (pa_cons (pe_op op_fdiv (pv 4) pe_int) pa_nil)) pe_int)))
      (pss_one (ps_ret (pe_op op_mod (pe_callTy call_int1 (by rfl) T.int PyProof.Rows.boot_int (pa_cons (pe_op op_mod (pe_op op_mul (pe_op op_mod (pv 7) pe_int) pe_int) pe_int) pa_nil)) (pv 2)))))))), ?_⟩
    refine reads_row rfl hS fun l H1 s1 hrow => ?_
    have rp := row_pos ns
    have rl := row_le ns
    have rp' : (0 : Int) < ((rowOf ns).length : Int) := by omega
    have m1 : 0 ≤ p % ((rowOf ns).length : Int) := Int.emod_nonneg _ (by omega)
    have m2 : p % ((rowOf ns).length : Int) < ((rowOf ns).length : Int) := Int.emod_lt_of_pos _ rp'
    have hcell : atI ((rowOf ns).map V.int) (p % ((rowOf ns).length : Int)) = some (V.int (cellAt ns p)) := by
      have e : p % ((rowOf ns).length : Int) = ((p % ((rowOf ns).length : Int)).toNat : Int) := by omega
      rw [e]
      refine atI_nat ?_
      have hlt : (p % ((rowOf ns).length : Int)).toNat < (rowOf ns).length := by omega
      rw [List.getElem?_map, List.getElem?_eq_getElem hlt]
      unfold cellAt
      rw [List.getD_eq_getElem?_getD, List.getElem?_eq_getElem hlt]; rfl
    have hlen : (((rowOf ns).map V.int).length : Int) = ((rowOf ns).length : Int) := by rw [List.length_map]
    have t0 : 0 ≤ turnAt ns p := Int.ediv_nonneg p0 (by omega)
    have t1 : turnAt ns p ≤ 100000 := Int.le_trans (Int.ediv_le_self _ p0) p1
    have hcell' : atI ((rowOf ns).map V.int) (p % (((rowOf ns).map V.int).length : Int)) = some (V.int (cellAt ns p)) := by rw [hlen]; exact hcell
    refine ⟨_, rfl, _, rfl, _, rfl, l, _, rfl, .inl (SqL.of hrow), _, _, rfl, rfl, (by rw [hlen]; exact rp'), l, _, _, _, rfl, rfl, SqL.of hrow, hcell', ?_⟩
    refine ⟨_, rfl, _, rfl, l, _, rfl, .inl (SqL.of hrow), _, _, rfl, rfl, ⟨by rw [hlen]; exact rp', by rw [hlen]; omega⟩, _, _, rfl, ?_⟩
    rw [hlen]
    show (tSeq _ _ : TS) _ [some (V.ref a), some (V.int p), some (V.int m), some (V.ref l), some (V.int (cellAt ns p)), some (V.int (turnAt ns p)), none, none] H1
    refine ⟨_, rfl, _, _, rfl, rfl, ⟨by decide, by decide, by decide⟩, _, _, rfl, rfl, _, rfl, ?_⟩
    have e18 : (10 : Int) ^ (18 : Int).toNat = 10 ^ 18 := rfl
    rw [e18]
    rcases Decidable.em ((10 : Int) ^ 18 ≤ cellAt ns p) with hc | hc
    · rw [decide_eq_true hc]
      refine iteT ?_
      refine ⟨_, rfl, .inl ⟨_, rfl, _, _, rfl, rfl, ⟨by decide, by decide, by decide⟩, _, _, rfl, rfl, (show (0 : Int) < 97 ^ (40 : Int).toNat by decide), ?_⟩⟩
      have e40 : (97 : Int) ^ (40 : Int).toNat = 97 ^ 40 := rfl
      rw [e40]
      refine ⟨_, rfl, _, _, rfl, rfl, (show (0 : Int) < 40 by decide), _, rfl, ?_, ?_, ?_⟩
      · have := Int.emod_nonneg (turnAt ns p) (b := 40) (by decide); omega
      · have := Int.emod_lt_of_pos (turnAt ns p) (b := 40) (by decide); omega
      · refine for_range (lo := 0) (n := (turnAt ns p % 40).toNat) (fun j σ H' => ∃ v : Option V, σ = [some (V.ref a), some (V.int p), some (V.int m), some (V.ref l), some (V.int (cellAt ns p % 97 ^ 40 / 97 ^ j)), some (V.int (turnAt ns p)), v, none] ∧ Same H H') ⟨none, by rw [Int.pow_zero, Int.ediv_one]; rfl, s1⟩ ?_ ?_
        · rintro j σ H' hj ⟨v, rfl, s2⟩
          refine ⟨_, rfl, _, _, rfl, rfl, ⟨by decide, by decide⟩, some (V.int (0 + j)), ?_, s2⟩
          rw [← div_pow]; rfl
        · rintro σ H' ⟨v, rfl, s2⟩
          refine ⟨_, rfl, .inl ⟨_, rfl, _, _, rfl, rfl, (show (0 : Int) < 97 by decide), _, rfl, _, _, rfl, rfl, m0, ?_⟩⟩
          have e := k H' s2
          unfold draw at e
          rw [if_pos hc] at e
          exact e
    · rw [decide_eq_false hc]
      refine iteF ?_
      have w1 := Int.emod_nonneg (cellAt ns p + 31 * turnAt ns p) (b := 1000003) (by decide)
      have w2 := Int.emod_lt_of_pos (cellAt ns p + 31 * turnAt ns p) (b := 1000003) (by decide)
      have w3 := Int.emod_nonneg (cellAt ns p / 1000003) (b := 999983) (by decide)
      have w4 := Int.emod_lt_of_pos (cellAt ns p / 1000003) (b := 999983) (by decide)
      refine ⟨_, rfl, _, rfl, _, _, rfl, rfl, .inl ⟨by decide, by decide⟩, _, _, rfl, rfl, .inl ⟨_, rfl, _, _, rfl, rfl, (show (0 : Int) < 1000003 by decide), ?_⟩⟩
      refine ⟨_, rfl, _, _, rfl, rfl, .inl ⟨by decide, by decide⟩, _, _, rfl, rfl, _, _, rfl, rfl, _, _, rfl, rfl, .inr ⟨by decide, by decide⟩, ?_⟩
      refine ⟨_, rfl, _, _, rfl, rfl, ⟨by decide, by decide⟩, .inl ⟨_, rfl, _, _, rfl, rfl, (show (0 : Int) < 999983 by decide), _, _, rfl, rfl, ?_⟩⟩
      refine ⟨_, rfl, _, _, rfl, rfl, (show (0 : Int) < 2147483647 by decide), _, _, rfl, rfl, .inr ⟨by decide, by decide⟩, _, _, rfl, rfl, (show (0 : Int) < 4294967291 by decide), .inl ⟨_, rfl, _, rfl, _, _, rfl, rfl, m0, ?_⟩⟩
      have e := k H1 s1
      unfold draw at e
      rw [if_neg hc] at e
      exact e
end
end K1
end
section
/-! The law's drawn machines. -/
namespace K1
open PySem L2
abbrev sMach : Stmt := top 31
/-- a step: from, kind, word, to -/
structure Stp where
  a : Int
  k : Str
  s : Str
  g : Int
  deriving DecidableEq
def stepV (s : Stp) : List V := [.int s.a, .str s.k, .str s.s, .int s.g]
/-- the values are tuples of these steps -/
def Row (H : Hp) : List V → List Stp → Prop := Paired fun v s => ∃ p, v = .ref p ∧ H p = some (.tup (stepV s))
theorem sqT_same {K : PySem.W.Frag} {H H' : Hp} {a : Addr} {xs : List V} (e : Same H H') (h : SqT K H a xs) : SqT K H' a xs := by
  rcases h with (h | ⟨o, h⟩) | h
  · exact .inl (.inl (e _ _ h))
  · exact .inl (.inr ⟨o, e _ _ h⟩)
  · exact .inr h
theorem Row.keep {H H' : Hp} {vs : List V} {xs : List Stp} (e : ∀ p ts, H p = some (.tup ts) → H' p = some (.tup ts)) (h : Row H vs xs) : Row H' vs xs := Paired.mapP h fun _ _ ⟨p, e1, e2⟩ => ⟨p, e1, e _ _ e2⟩
theorem Row.same {H H' : Hp} {vs : List V} {xs : List Stp} (e : Same H H') (h : Row H vs xs) : Row H' vs xs := h.keep fun _ _ z => e _ _ z
theorem paired_app {α β : Type} {F : α → β → Prop} : ∀ {as as' : List α} {bs bs' : List β}, Paired F as bs → Paired F as' bs' → Paired F (as ++ as') (bs ++ bs')
  | _, _, _, _, .nil, h => h
  | _, _, _, _, .cons h t, h' => .cons h (paired_app t h')
/-! ### the mathematics -/
def kindAt (ns : List Int) (ks : List Str) (p : Int) : Str := ks.getD (draw ns p ks.length).toNat Str.empty
/-- the step that is drawn at a turn -/
def drawStp (ns : List Int) (p : Int) (many : Int) (ks ws : List Str) (turn : Int) : Stp :=
  let spot := p + 5 * turn + 2
  { a := if turn + 1 < many ∧ draw ns spot 2 = 0 then turn else draw ns (spot + 3) many
    k := kindAt ns ks (spot + 1), s := kindAt ns ws (spot + 2), g := draw ns (spot + 4) many }
def manyOf (ns : List Int) (p most : Int) : Int := 2 + draw ns p (most - 1)
def turnsOf (ns : List Int) (p most : Int) : Int := manyOf ns p most + draw ns (p + 1) (manyOf ns p most + 3)
def stepsOf (ns : List Int) (p most : Int) (ks ws : List Str) : List Stp := (List.range (turnsOf ns p most).toNat).map fun (j : Nat) => drawStp ns p (manyOf ns p most) ks ws (j : Int)
theorem manyOf_in (ns : List Int) (p : Int) {most : Int} (h : 2 ≤ most) : 2 ≤ manyOf ns p most ∧ manyOf ns p most ≤ most := by
  have q := draw_lt ns p (m := most - 1) (by omega)
  unfold manyOf; omega
theorem turnsOf_in (ns : List Int) (p : Int) {most : Int} (h : 2 ≤ most) : 2 ≤ turnsOf ns p most ∧ turnsOf ns p most ≤ 2 * most + 2 := by
  have q := manyOf_in ns p h
  have q2 := draw_lt ns (p + 1) (m := manyOf ns p most + 3) (by omega)
  unfold turnsOf; omega
theorem item_texts {ks : List Str} {i : Int} (h0 : 0 ≤ i) (h : i < ks.length) : atI (ks.map V.str) i = some (V.str (ks.getD i.toNat Str.empty)) := by
  have e : i = (i.toNat : Int) := by omega
  have hlt : i.toNat < ks.length := by omega
  rw [e]
  refine atI_nat ?_
  rw [List.getElem?_map, List.getElem?_eq_getElem hlt, List.getD_eq_getElem?_getD]
  show _ = some (V.str (ks[((i.toNat : Nat) : Int).toNat]?.getD Str.empty))
  rw [Int.toNat_natCast, List.getElem?_eq_getElem hlt]; rfl
/-! ### the promise -/
def spMach (K : PySem.W.Frag) : Sp := fun vs H Q _ => ∃ (a kk ww : Addr) (ns : List Int) (p most : Int) (ks ws : List Str), vs = [.ref a, .int p, .int most, .ref kk, .ref ww] ∧ SqL K H a (ns.map V.int) ∧ ns.length ≤ 63 ∧ 0 ≤ p ∧ p ≤ 1000 ∧ 2 ≤ most ∧ most ≤ 100 ∧
  SqT K H kk (ks.map V.str) ∧ SqT K H ww (ws.map V.str) ∧ 0 < ks.length ∧ 0 < ws.length ∧
  ∀ H' t l xs, Same H H' → H' t = some (.tup [.int (manyOf ns p most), .ref l]) → H' l = some (.lst xs) → Row H' xs (stepsOf ns p most ks ws) → Q (.ref t) H'
/-- first = turn if .. else .. -/
theorem reads_first {K : PySem.W.Frag} {σ : L2.St} {H : Hp} {R : VK} {a : Addr} {ns : List Int} {p many spot : Int} {ks ws : List Str} {j : Nat} (hsp : p + 5 * (j : Int) + 2 = spot) (s0 : 0 ≤ spot) (s1 : spot ≤ 90000) (m0 : 2 ≤ many) (hS : SqL K H a (ns.map V.int)) (hl : ns.length ≤ 63)
    (h0 : σ[0]? = some (some (V.ref a))) (h5 : σ[5]? = some (some (V.int many))) (h7 : σ[7]? = some (some (V.int (j : Int)))) (h8 : σ[8]? = some (some (V.int spot)))
    (h : ∀ H', Same H H' → R (.int (drawStp ns p many ks ws (j : Int)).a) H') :
    tIf (tAnd (tTest (tOp (rI0 fun i j => V.bl (decide (i < j))) (tOp (rI0 fun i j => V.int (i + j)) (tVar 7) (tC (V.int 1))) (tVar 5)))
        (tTest (tOp rEq (tCall (spDraw K) [] E0 (tCons (tVar 0) (tCons (tVar 8) (tCons (tC (V.int 2)) tNil)))) (tC (V.int 0))))) (tVar 7)
      (tCall (spDraw K) [] E0 (tCons (tVar 0) (tCons (tOp (rI0 fun i j => V.int (i + j)) (tVar 8) (tC (V.int 3))) (tCons (tVar 5) tNil)))) σ H R := by
  have ea : (drawStp ns p many ks ws (j : Int)).a = if (j : Int) + 1 < many ∧ draw ns spot 2 = 0 then (j : Int) else draw ns (spot + 3) many := by rw [← hsp]; rfl
  rw [ea] at h
  have els : ∀ H1, Same H H1 → ¬ ((j : Int) + 1 < many ∧ draw ns spot 2 = 0) → tCall (spDraw K) [] E0 (tCons (tVar 0) (tCons (tOp (rI0 fun i j => V.int (i + j)) (tVar 8) (tC (V.int 3))) (tCons (tVar 5) tNil))) σ H1 R := fun H1 e1 hn => by
    refine ⟨_, h0, _, h8, _, _, rfl, rfl, _, h5, a, ns, spot + 3, many, rfl, e1.seq hS, hl, by omega, by omega, by omega, fun H2 e2 => ?_⟩
    have q := h H2 (e1.trans e2)
    rwa [if_neg hn] at q
  refine ⟨_, h7, _, _, rfl, rfl, _, h5, _, _, rfl, rfl, _, rfl, ?_⟩
  rcases Decidable.em ((j : Int) + 1 < many) with c | c
  · rw [decide_eq_true c]
    refine iteT ⟨_, h0, _, h8, a, ns, spot, 2, rfl, hS, hl, s0, by omega, by omega, fun H1 e1 => ⟨rfl, _, rfl, ?_⟩⟩
    rcases Decidable.em (draw ns spot 2 = 0) with d | d
    · rw [d]
      refine iteT ⟨_, h7, ?_⟩
      have q := h H1 e1
      rwa [if_pos ⟨c, d⟩] at q
    · have z : decide (V.int (draw ns spot 2) = V.int 0) = false := decide_eq_false fun z => d (V.int.inj z)
      rw [z]
      exact iteF (els H1 e1 fun y => d y.2)
  · rw [decide_eq_false c]
    exact iteF (iteF (els H (Same.refl H) fun y => c y.1))
structure TxtM (K : PySem.W.Frag) (mg : Str → Option Value) (fD : Addr) : Prop where
  len : mg "len" = none
  range : mg "range" = none
  g_law_draw : mg "_law_draw" = some (.ref fD)
  k_law_draw : PySem.W.keepIn K (.ref fD) = true
section
variable {P : Program} {w : World} {K : PySem.W.Frag} {mg : Str → Option Value} {base : Heap}
abbrev nMach : List Str := ["script", "at", "most", "kinds", "words", "many", "steps", "turn", "spot", "kind", "seen", "first"]
theorem scMach : FnScope nMach ["script", "at", "most", "kinds", "words"] (defScope sMach) := ⟨rfl, rfl, rfl, by decide +kernel, rfl, by decide +kernel, by decide +kernel⟩
theorem ok_mach {f fD : Addr} {fd fdD : FuncData} (F : Fun K "_law_machine" "_law_machine" sMach f fd) (T : TxtM K mg fD)
    (G_law_draw : FnOk P w K mg base CX0 1 fD fdD ["script", "at", "many"] (spDraw K)) (b_law_draw : Binds K fdD ["script", "at", "many"] []) : FnOk P w K mg base CX0 2 f fd ["script", "at", "most", "kinds", "words"] (spMach K) := by
  refine F.ok scMach (fun vs H Q E h => ?_) (fun cdv A outer s H vs Q E hr h => ?_)
  · obtain ⟨a, kk, ww, ns, p, most, ks, ws, rfl, _⟩ := h
    rfl
  · obtain ⟨a, kk, ww, ns, p, most, ks, ws, rfl, hS, hl, p0, p1, m0, m1, hk, hw, k0, w0, k⟩ := h
    have hu := hr.units
    have nd := scMach.nd
    have hr_law_draw : Room 1 _ := hr
    refine ⟨_, (pss_cons (ps_set (i := 5) nd rfl (Or.inl rfl) (pe_op op_add pe_int (pe_call G_law_draw hr_law_draw (by rfl) T.g_law_draw T.k_law_draw b_law_draw .nil pass0 (pa_cons (pv 0) (pa_cons (pv 1) (pa_cons (pe_op op_sub (pv 2) pe_int) pa_nil))))))
      (pss_cons (ps_set (i := 6) nd rfl (Or.inl rfl) (pe_lst pa_nil))
      (pss_cons (ps_for PassesOwn.never rfl (pi_range1 (by rfl) T.range (pa_cons (pe_op op_add (pv 5) (pe_call G_law_draw hr_law_draw (by rfl) T.g_law_draw T.k_law_draw b_law_draw .nil pass0 (pa_cons (pv 0) (pa_cons (pe_op op_add (pv 1) pe_int) (pa_cons (pe_op op_add (pv 5) pe_int) pa_nil))))) pa_nil)) (pg_name (i := 7) nd rfl (Or.inl rfl))
        (pss_cons (ps_set (i := 8) nd rfl (Or.inl rfl) (pe_op op_add (pe_op op_add (pv 1) (pe_op op_mul pe_int (pv 7))) pe_int))
        (pss_cons (ps_par (i := 9) (j := 10) (by rfl) nd rfl rfl (by decide) rfl rfl (pa_cons (pe_ix ix_tup (pv 3) (pe_call G_law_draw hr_law_draw (by rfl) T.g_law_draw T.k_law_draw b_law_draw .nil pass0 (pa_cons (pv 0) (pa_cons (pe_op op_add (pv 8) pe_int) (pa_cons (pe_callB call_len_seq (by rfl) T.len PySem.boot_len (pa_cons (pv 3) pa_nil)) pa_nil)))) (fun _ _ => rfl)) (pa_cons (pe_ix ix_tup (pv 4) (pe_call G_law_draw hr_law_draw (by rfl) T.g_law_draw T.k_law_draw b_law_draw .nil pass0 (pa_cons (pv 0) (pa_cons (pe_op op_add (pv 8) pe_int) (pa_cons (pe_callB call_len_seq (by rfl) T.len PySem.boot_len (pa_cons (pv 4) pa_nil)) pa_nil)))) (fun _ _ => rfl)) pa_nil)) (by rfl))
        (pss_cons (ps_set (i := 11) nd rfl (Or.inl rfl) (pe_ifExp (PW.pt (pw_and (pt_cmpR op_lt (pe_op op_add (pv 7) pe_int) (pv 5) (nomark _)) (pw_and1 (pt_cmpR op_eq (pe_call G_law_draw hr_law_draw (by rfl) T.g_law_draw T.k_law_draw b_law_draw .nil pass0 (pa_cons (pv 0) (pa_cons (pv 8) (pa_cons pe_int pa_nil)))) pe_int (nomark _))))) (pv 7) (pe_call G_law_draw hr_law_draw (by rfl) T.g_law_draw T.k_law_draw b_law_draw .nil pass0 (pa_cons (pv 0) (pa_cons (pe_op op_add (pv 8) pe_int) (pa_cons (pv 5) pa_nil))))))
        (pss_one (ps_expr (pe_bm PySem.F.plainAttrs_list PySem.F.slot_list_append PySem.F.type_list_append mt_append (pv 6) (pa_cons (pe_tup (pa_cons (pv 11) (pa_cons (pv 9) (pa_cons (pv 10) (pa_cons (pe_call G_law_draw hr_law_draw (by rfl) T.g_law_draw T.k_law_draw b_law_draw .nil pass0 (pa_cons (pv 0) (pa_cons (pe_op op_add (pv 8) pe_int) (pa_cons (pv 5) pa_nil)))) pa_nil))))) pa_nil))))))))
      (pss_one (ps_ret (pe_tup (pa_cons (pv 5) (pa_cons (pv 6) pa_nil)))))))), ?_⟩
    have M := manyOf_in ns p m0
    have TT := turnsOf_in ns p m0
    -- many = 2 + draw
    refine ⟨_, rfl, _, rfl, _, rfl, _, _, rfl, rfl, a, ns, p, most - 1, rfl, hS, hl, by omega, by omega, by omega, fun H1 s1 => ⟨_, _, rfl, rfl, ?_⟩⟩
    show (tSeq _ _ : TS) _ [some (V.ref a), some (V.int p), some (V.int most), some (V.ref kk), some (V.ref ww), some (V.int (manyOf ns p most)), none, none, none, none, none, none] H1
    -- steps = []
    refine ⟨Nat.zero_le _, fun l hl1 => ?_⟩
    have hl0 : H l = none := s1.free hl1
    have s2 : Same H (upd H1 l (.lst [])) := s1.trans (same_new hl1)
    refine ⟨_, rfl, _, rfl, _, rfl, _, _, rfl, rfl, _, rfl, _, _, rfl, rfl, a, ns, p + 1, manyOf ns p most + 3, rfl, s2.seq hS, hl, by omega, by omega, by omega, fun H3 s3 => ⟨_, _, rfl, rfl, ?_⟩⟩
    show ∃ j : Int, [V.int (turnsOf ns p most)] = [V.int j] ∧ _
    refine ⟨_, rfl, by omega, by omega, for_range (lo := 0) (n := (turnsOf ns p most).toNat) (fun j σ H' => ∃ (v7 v8 v9 v10 v11 : Option V) (xs : List V),
      σ = [some (V.ref a), some (V.int p), some (V.int most), some (V.ref kk), some (V.ref ww), some (V.int (manyOf ns p most)), some (V.ref l), v7, v8, v9, v10, v11] ∧ Same H H' ∧ H' l = some (.lst xs) ∧ xs.length = j ∧
      Row H' xs ((List.range j).map fun (i : Nat) => drawStp ns p (manyOf ns p most) ks ws (i : Int))) ⟨none, none, none, none, none, [], rfl, s2.trans s3, s3 _ _ upd_same, rfl, .nil⟩ ?_ ?_⟩
    · rintro j σ H' hj ⟨v7, v8, v9, v10, v11, xs, rfl, e1, e2, e3, e4⟩
      rw [Int.zero_add]
      refine ⟨_, rfl, _, rfl, _, _, rfl, rfl, .inl ⟨by decide, by decide⟩, _, _, rfl, rfl, _, _, rfl, rfl, ?_⟩
      show (tSeq _ _ : TS) _ [some (V.ref a), some (V.int p), some (V.int most), some (V.ref kk), some (V.ref ww), some (V.int (manyOf ns p most)), some (V.ref l), some (V.int (j : Int)), some (V.int (p + 5 * (j : Int) + 2)), v9, v10, v11] H'
      generalize hspot : p + 5 * (j : Int) + 2 = spot
      have q1 := draw_lt ns (spot + 1) (m := (ks.length : Int)) (by omega)
      have q2 := draw_lt ns (spot + 2) (m := (ws.length : Int)) (by omega)
      have lk : ((ks.map V.str).length : Int) = (ks.length : Int) := by rw [List.length_map]
      have lw : ((ws.map V.str).length : Int) = (ws.length : Int) := by rw [List.length_map]
      refine ⟨_, rfl, _, rfl, _, rfl, _, _, rfl, rfl, _, rfl, kk, _, rfl, .inr (sqT_same e1 hk), a, ns, spot + 1, (ks.length : Int), by rw [lk]; rfl, e1.seq hS, hl, by omega, by omega, by omega, fun H4 s4 => ?_⟩
      have e5 := e1.trans s4
      refine ⟨kk, _, _, _, rfl, rfl, sqT_same e5 hk, item_texts q1.1 q1.2, ?_⟩
      refine ⟨_, rfl, _, rfl, _, rfl, _, _, rfl, rfl, _, rfl, ww, _, rfl, .inr (sqT_same e5 hw), a, ns, spot + 2, (ws.length : Int), by rw [lw]; rfl, e5.seq hS, hl, by omega, by omega, by omega, fun H5 s5 => ?_⟩
      have e6 := e5.trans s5
      refine ⟨ww, _, _, _, rfl, rfl, sqT_same e6 hw, item_texts q2.1 q2.2, _, _, rfl, ?_⟩
      show (tSeq _ _ : TS) _ [some (V.ref a), some (V.int p), some (V.int most), some (V.ref kk), some (V.ref ww), some (V.int (manyOf ns p most)), some (V.ref l), some (V.int (j : Int)), some (V.int spot), some (V.str (kindAt ns ks (spot + 1))), some (V.str (kindAt ns ws (spot + 2))), v11] H5
      refine reads_first (p := p) (many := manyOf ns p most) (ks := ks) (ws := ws) (j := j) hspot (by omega) (by omega) (by omega) (e6.seq hS) hl rfl rfl rfl rfl fun H6 s6 => ?_
      generalize hx : (drawStp ns p (manyOf ns p most) ks ws (j : Int)).a = x
      have e7 := e6.trans s6
      have hl6 : H6 l = some (.lst xs) := s6 _ _ (s5 _ _ (s4 _ _ e2))
      refine ⟨_, rfl, .inl ⟨rfl, _, SqL.of hl6⟩, _, rfl, _, rfl, _, rfl, _, rfl, _, rfl, _, _, rfl, rfl, _, rfl, a, ns, spot + 4, manyOf ns p most, rfl, e7.seq hS, hl, by omega, by omega, by omega, fun H7 s7 => ?_⟩
      have e8 := e7.trans s7
      refine ⟨by show 4 ≤ sizeLine; decide, fun t ht => ?_⟩
      have hl7 : upd H7 t (.tup [V.int x, V.str (kindAt ns ks (spot + 1)), V.str (kindAt ns ws (spot + 2)), V.int (draw ns (spot + 4) (manyOf ns p most))]) l = some (.lst xs) := (same_new ht) _ _ (s7 _ _ hl6)
      refine ⟨l, xs, _, rfl, rfl, hl7, by rw [e3, sizeLine_eq]; omega, ?_⟩
      have ntl : t ≠ l := fun z => by rw [z] at ht; rw [s7 _ _ hl6] at ht; cases ht
      refine ⟨_, _, _, _, _, xs ++ [V.ref t], rfl, fun b o z => ?_, upd_same, by rw [List.length_append, e3]; rfl, ?_⟩
      · have nb : b ≠ l := fun y => by rw [y, hl0] at z; cases z
        rw [upd_ne nb]
        exact (same_new ht) _ _ (e8 _ _ z)
      · rw [List.range_succ, List.map_append]
        refine paired_app (Row.keep (fun q ts y2 => ?_) e4) (.cons ⟨t, rfl, ?_⟩ .nil)
        · have z1 := ((s4.trans s5).trans (s6.trans (s7.trans (same_new (o := .tup [V.int x, V.str (kindAt ns ks (spot + 1)), V.str (kindAt ns ws (spot + 2)), V.int (draw ns (spot + 4) (manyOf ns p most))]) ht)))) _ _ y2
          rw [upd_ne (ne_of z1 hl7 (by intro z; cases z))]; exact z1
        · rw [upd_ne ntl, upd_same, ← hx]
          show some (HO.tup [_, _, _, _]) = some (HO.tup (stepV (drawStp ns p (manyOf ns p most) ks ws (j : Int))))
          subst hspot; rfl
    · rintro σ H' ⟨v7, v8, v9, v10, v11, xs, rfl, e1, e2, e3, e4⟩
      refine ⟨_, rfl, _, rfl, by show 2 ≤ sizeLine; decide, fun t ht => ?_⟩
      exact k _ t l xs (e1.trans (same_new ht)) upd_same ((same_new ht) _ _ e2) (e4.same (same_new ht))
end
end K1
end
section
/-! checks: numbers, words, steps. -/
namespace K1
open PySem L2
/-- a value that is looked at: its kind -/
inductive Pl (K : PySem.W.Frag) (H : Hp) : V → String → Prop where
  | non : Pl K H .non "NoneType"
  | bl (b : Bool) : Pl K H (.bl b) "bool"
  | int (i : Int) : Pl K H (.int i) "int"
  | str {x : Str} (h : x.length ≤ sizeLine) : Pl K H (.str x) "str"
  | lst {a : Addr} {xs : List V} (h : H a = some (.lst xs)) : Pl K H (.ref a) "list"
  | tup {a : Addr} {xs : List V} (h : H a = some (.tup xs)) : Pl K H (.ref a) "tuple"
  | dK {a : Addr} {kvs : List (Key × V)} (h : H a = some (.dK kvs)) : Pl K H (.ref a) "dict"
theorem Pl.tyB {K : PySem.W.Frag} {H : Hp} {v : V} {T : String} (h : Pl K H v T) : TyB K H v T := by
  cases h with
  | non => exact .non
  | bl b => exact .bl b
  | int i => exact .int i
  | str h => exact .str _
  | lst h => exact .lst (SqL.of h)
  | tup h => exact .tup (SqT.of h)
  | dK h => exact .dK h
theorem Pl.tyX {K : PySem.W.Frag} {H : Hp} {v : V} {T : String} (h : Pl K H v T) : TyX K H v (.type T) := by
  cases h with
  | non => exact .base .non
  | bl b => exact .base (.bl b)
  | int i => exact .base (.int i)
  | str h => exact .base (.str _)
  | lst h => exact .base (.lst h)
  | tup h => exact .base (.tup h)
  | dK h => exact .base (.dK h)
theorem Pl.same {K : PySem.W.Frag} {H H' : Hp} {v : V} {T : String} (e : Same H H') (h : Pl K H v T) : Pl K H' v T := by
  cases h with
  | non => exact .non
  | bl b => exact .bl b
  | int i => exact .int i
  | str h => exact .str h
  | lst h => exact .lst (e _ _ h)
  | tup h => exact .tup (e _ _ h)
  | dK h => exact .dK (e _ _ h)
theorem Pl.kit {K : PySem.W.Frag} {H : Hp} {v : V} {T : String} (h : Pl K H v T) (c : String) (hc : c = "str" ∨ c = "tuple" ∨ c = "list") : PySem.W.kitOne K (.type T) (.type c) = some (decide (T = c)) := by
  refine kit_ty ?_
  cases h <;> rcases hc with rfl | rfl | rfl <;> decide +kernel
/-! ### the mathematics -/
def numB : V → Bool
  | .int i => decide (0 ≤ i)
  | _ => false
def wordS (x : Str) : Bool := decide (1 ≤ x.length) && decide (x.length ≤ 8) && Txt.isascii x && Txt.isalpha x && Txt.islower x
def wordB : V → Bool
  | .str x => wordS x
  | _ => false
def wordE : V → Bool
  | .str x => decide (x = Str.ofString "") || wordS x
  | _ => false
/-! ### promises -/
def spNum (K : PySem.W.Frag) : Sp := fun vs H Q _ => ∃ (v : V) (ty : String), vs = [v] ∧ Pl K H v ty ∧ Q (.bl (numB v)) H
def spWord (K : PySem.W.Frag) : Sp := fun vs H Q _ => ∃ (v : V) (ty : String), vs = [v] ∧ Pl K H v ty ∧ Q (.bl (wordB v)) H
def spWordE (K : PySem.W.Frag) : Sp := fun vs H Q _ => ∃ (v : V) (ty : String), vs = [v] ∧ Pl K H v ty ∧ (∀ a, v ≠ .ref a) ∧ Q (.bl (wordE v)) H
structure TxtB (mg : Str → Option Value) : Prop where
  type : mg "type" = none
  int : mg "int" = none
  str : mg "str" = none
  isinstance : mg "isinstance" = none
  len : mg "len" = none
  list : mg "list" = none
  tuple : mg "tuple" = none
structure TxtW (K : PySem.W.Frag) (mg : Str → Option Value) (fW : Addr) : Prop where
  g_is_word : mg "is_word" = some (.ref fW)
  k_is_word : PySem.W.keepIn K (.ref fW) = true
section
variable {P : Program} {w : World} {K : PySem.W.Frag} {mg : Str → Option Value} {base : Heap}
abbrev sNum : Stmt := top 7
theorem scNum : FnScope ["value"] ["value"] (defScope sNum) := ⟨rfl, rfl, rfl, by decide +kernel, rfl, by decide +kernel, by decide +kernel⟩
theorem ok_num {f : Addr} {fd : FuncData} (F : Fun K "is_number" "is_number" sNum f fd) (T : TxtB mg) : FnOk P w K mg base CX0 1 f fd ["value"] (spNum K) := by
  refine F.ok scNum (fun vs H Q E h => ?_) (fun cdv A outer s H vs Q E hr h => ?_)
  · obtain ⟨v, ty, rfl, _⟩ := h
    rfl
  · obtain ⟨v, ty, rfl, pl, k⟩ := h
    refine ⟨_, (pss_one (ps_ret (pe_and (pe_cmpR op_isTyB (pe_callTy call_type1 (by rfl) T.type (by decide +kernel) (pa_cons (pv 0) pa_nil)) (pe_bltn (v := .ty "int") (by rfl) T.int (by decide +kernel) rfl) (nomark _)) (pe_one (pe_cmpR op_ge (pv 0) pe_int (nomark _)))))), ?_⟩
    refine ⟨_, rfl, v, ty, rfl, pl.tyB, ty, "int", rfl, rfl, _, rfl, ?_⟩
    cases pl with
    | int i => exact iteT ⟨_, rfl, _, _, rfl, rfl, k⟩
    | non => exact iteF k
    | bl b => exact iteF k
    | str h => exact iteF k
    | lst h => exact iteF k
    | tup h => exact iteF k
    | dK h => exact iteF k
abbrev sWord : Stmt := top 8
theorem scWord : FnScope ["value"] ["value"] (defScope sWord) := ⟨rfl, rfl, rfl, by decide +kernel, rfl, by decide +kernel, by decide +kernel⟩
theorem ok_word {f : Addr} {fd : FuncData} (F : Fun K "is_word" "is_word" sWord f fd) (T : TxtB mg) : FnOk P w K mg base CX0 1 f fd ["value"] (spWord K) := by
  refine F.ok scWord (fun vs H Q E h => ?_) (fun cdv A outer s H vs Q E hr h => ?_)
  · obtain ⟨v, ty, rfl, _⟩ := h
    rfl
  · obtain ⟨v, ty, rfl, pl, k⟩ := h
    refine ⟨_, (pss_cons (ps_if (PW.pt (pw_or (pt_not (pt_val (pe_callB call_isi (by rfl) T.isinstance (by decide +kernel) (pa_cons (pv 0) (pa_cons (pe_bltn (v := .ty "str") (by rfl) T.str (by decide +kernel) rfl) pa_nil))))) (pw_or1 (pt_not (pt_chain op_le op_le pe_int (pe_callB call_len_str (by rfl) T.len PySem.boot_len (pa_cons (pv 0) pa_nil)) pe_int)))))
        (pss_one (ps_ret pe_bl))
        pss_nil)
      (pss_one (ps_ret (pe_and (pe_m0 PySem.F.slot_str_isascii PySem.F.type_str_isascii mt_isascii (pv 0)) (pe_and (pe_m0 PySem.F.slot_str_isalpha PySem.F.type_str_isalpha mt_isalpha (pv 0)) (pe_one (pe_m0 PySem.F.slot_str_islower PySem.F.type_str_islower mt_islower (pv 0)))))))), ?_⟩
    refine ⟨_, rfl, v, .ty "str", _, _, _, rfl, .ty "str", pl.tyX, pl.kit "str" (.inl rfl), _, rfl, ?_⟩
    have no : (∀ x, v ≠ .str x) → ty ≠ "str" ∧ wordB v = false := fun hn => by
      cases pl <;> first | exact ⟨by decide, rfl⟩ | exact absurd rfl (hn _)
    cases pl with
    | @str x hx =>
      refine iteF ?_
      refine ⟨_, rfl, x, rfl, hx, _, _, rfl, rfl, _, rfl, ?_⟩
      have wd : wordB (.str x) = (decide (1 ≤ x.length) && decide (x.length ≤ 8) && Txt.isascii x && Txt.isalpha x && Txt.islower x) := rfl
      rw [wd] at k
      have rest : decide (1 ≤ x.length) = true → decide (x.length ≤ 8) = true → (tRet (tAndV (tM0 (fun x xs H Q => ∃ a, x = V.str a ∧ xs = [] ∧ True ∧ Q (V.bl (Txt.isascii a)) H) (tVar 0)) (tAndV (tM0 (fun x xs H Q => ∃ a, x = V.str a ∧ xs = [] ∧ True ∧ Q (V.bl (Txt.isalpha a)) H) (tVar 0))
          (tM0 (fun x xs H Q => ∃ a, x = V.str a ∧ xs = [] ∧ True ∧ Q (V.bl (Txt.islower a)) H) (tVar 0)))) : TS) { nx := fun x H' => Q V.non H', rt := Q } (L2.start [Str.ofString "value"] [V.str x]) H := fun h1 h2 => by
        rw [h1, h2, Bool.true_and, Bool.true_and] at k
        refine ⟨_, rfl, ⟨x, rfl⟩, x, rfl, rfl, trivial, _, rfl, ?_⟩
        cases z1 : Txt.isascii x with
        | false => rw [z1] at k; exact iteF k
        | true =>
          rw [z1] at k
          refine iteT ⟨_, rfl, ⟨x, rfl⟩, x, rfl, rfl, trivial, _, rfl, ?_⟩
          cases z2 : Txt.isalpha x with
          | false => rw [z2] at k; exact iteF k
          | true =>
            rw [z2] at k
            exact iteT ⟨_, rfl, ⟨x, rfl⟩, x, rfl, rfl, trivial, k⟩
      have e1 : decide ((1 : Int) ≤ (x.length : Int)) = decide (1 ≤ x.length) := by
        rw [decide_eq_decide]; omega
      rw [e1]
      cases c1 : decide (1 ≤ x.length) with
      | false =>
        rw [c1] at k
        exact iteF ⟨_, rfl, iteT k⟩
      | true =>
        refine iteT ⟨_, _, rfl, rfl, _, rfl, ?_⟩
        have e2 : decide ((x.length : Int) ≤ 8) = decide (x.length ≤ 8) := by
          rw [decide_eq_decide]; omega
        rw [e2]
        cases c2 : decide (x.length ≤ 8) with
        | false =>
          rw [c1, c2] at k
          exact iteT k
        | true => exact iteF (rest c1 c2)
    | non => exact iteT (iteT k)
    | bl b => exact iteT (iteT k)
    | int i => exact iteT (iteT k)
    | lst h => exact iteT (iteT k)
    | tup h => exact iteT (iteT k)
    | dK h => exact iteT (iteT k)
abbrev sWordE : Stmt := top 9
theorem scWordE : FnScope ["value"] ["value"] (defScope sWordE) := ⟨rfl, rfl, rfl, by decide +kernel, rfl, by decide +kernel, by decide +kernel⟩
theorem ok_wordE {f fW : Addr} {fd fdW : FuncData} (F : Fun K "is_word_or_empty" "is_word_or_empty" sWordE f fd) (T : TxtW K mg fW) (G_is_word : FnOk P w K mg base CX0 1 fW fdW ["value"] (spWord K)) (b_is_word : Binds K fdW ["value"] []) : FnOk P w K mg base CX0 2 f fd ["value"] (spWordE K) := by
  refine F.ok scWordE (fun vs H Q E h => ?_) (fun cdv A outer s H vs Q E hr h => ?_)
  · obtain ⟨v, ty, rfl, _⟩ := h
    rfl
  · obtain ⟨v, ty, rfl, pl, nr, k⟩ := h
    have hu := hr.units
    have hr_is_word : Room 1 _ := hr
    refine ⟨_, (pss_one (ps_ret (pe_or (pe_cmpR op_eq (pv 0) pe_str (nomark _)) (pe_one (pe_call G_is_word hr_is_word (by rfl) T.g_is_word T.k_is_word b_is_word .nil pass0 (pa_cons (pv 0) pa_nil)))))), ?_⟩
    refine ⟨_, rfl, ?_⟩
    have sc : scal v (.str (Str.ofString "")) = true := by
      cases pl <;> first | rfl | exact absurd rfl (nr _)
    refine ⟨sc, _, rfl, ?_⟩
    have ev : wordE v = (decide (v = V.str (Str.ofString "")) || wordB v) := by
      cases pl with
      | @str x h =>
        show (decide (x = Str.ofString "") || wordS x) = (decide (V.str x = V.str (Str.ofString "")) || wordS x)
        congr 1
        rw [decide_eq_decide]
        exact ⟨fun e => by rw [e], fun e => V.str.inj e⟩
      | non => rfl
      | bl b => rfl
      | int i => rfl
      | lst h => exact absurd rfl (nr _)
      | tup h => exact absurd rfl (nr _)
      | dK h => exact absurd rfl (nr _)
    rw [ev] at k
    cases c : decide (v = V.str (Str.ofString "")) with
    | true => rw [c] at k; exact iteT k
    | false => rw [c] at k; exact iteF ⟨_, rfl, v, ty, rfl, pl, k⟩

/-! ### steps -/
def fourB (many : Int) (x k s g : V) : Bool := match x, g with
  | .int i, .int j => decide (0 ≤ i) && decide (0 ≤ j) && decide (i < many) && decide (j < many) && wordE k && wordE s
  | _, _ => false
/-- what is_step answers of a value -/
def stepB (H : Hp) (many : Int) (v : V) : Bool := match v with
  | .ref a => match H a with
    | some (.tup [x, k, s, g]) => fourB many x k s g
    | _ => false
  | _ => false
abbrev sIsStep : Stmt := top 28
/-- a value that is_step looks at: its places too, where it is a tuple of four -/
def Look (K : PySem.W.Frag) (H : Hp) (v : V) : Prop := ∃ ty, Pl K H v ty ∧ ∀ a xs, v = .ref a → H a = some (.tup xs) → ∀ x ∈ xs, ∃ t, Pl K H x t ∧ ∀ b, x ≠ .ref b
def spIsStep (K : PySem.W.Frag) : Sp := fun vs H Q _ => ∃ (many : Int) (v : V), vs = [.int many, v] ∧ Look K H v ∧ Q (.bl (stepB H many v)) H
structure TxtS (K : PySem.W.Frag) (mg : Str → Option Value) (fN fE : Addr) : Prop where
  g_is_number : mg "is_number" = some (.ref fN)
  k_is_number : PySem.W.keepIn K (.ref fN) = true
  g_is_word_or_empty : mg "is_word_or_empty" = some (.ref fE)
  k_is_word_or_empty : PySem.W.keepIn K (.ref fE) = true
  isinstance : mg "isinstance" = none
  tuple : mg "tuple" = none
  len : mg "len" = none
theorem scIsStep : FnScope ["many", "step", "state", "kind", "seen", "goal"] ["many", "step"] (defScope sIsStep) := ⟨rfl, rfl, rfl, by decide +kernel, rfl, by decide +kernel, by decide +kernel⟩
theorem ok_isStep {f fN fE : Addr} {fd fdN fdE : FuncData} (F : Fun K "is_step" "is_step" sIsStep f fd) (T : TxtS K mg fN fE)
    (G_is_number : FnOk P w K mg base CX0 1 fN fdN ["value"] (spNum K)) (b_is_number : Binds K fdN ["value"] []) (G_is_word_or_empty : FnOk P w K mg base CX0 2 fE fdE ["value"] (spWordE K)) (b_is_word_or_empty : Binds K fdE ["value"] []) :
    FnOk P w K mg base CX0 3 f fd ["many", "step"] (spIsStep K) := by
  refine F.ok scIsStep (fun vs H Q E h => ?_) (fun cdv A outer s H vs Q E hr h => ?_)
  · obtain ⟨many, v, rfl, _⟩ := h
    rfl
  · obtain ⟨many, v, rfl, ⟨ty, pl, al⟩, k⟩ := h
    have hu := hr.units
    have nd := scIsStep.nd
    have hr_is_number : Room 1 _ := hr.mono (by decide)
    have hr_is_word_or_empty : Room 2 _ := hr
    refine ⟨_, (pss_cons (ps_if (PW.pt (pw_or (pt_not (pt_val (pe_callB call_isi (by rfl) T.isinstance (by decide +kernel) (pa_cons (pv 1) (pa_cons (pe_bltn (v := .ty "tuple") (by rfl) T.tuple (by decide +kernel) rfl) pa_nil))))) (pw_or1 (pt_cmpR op_ne (pe_callB call_len_seq (by rfl) T.len PySem.boot_len (pa_cons (pv 1) pa_nil)) pe_int (nomark _)))))
        (pss_one (ps_ret pe_bl))
        pss_nil)
      (pss_cons (ps_asg (pv 1) (pg_tup rfl (pgs_cons (pg_name (i := 2) nd rfl (Or.inl rfl)) (pgs_cons (pg_name (i := 3) nd rfl (Or.inl rfl)) (pgs_cons (pg_name (i := 4) nd rfl (Or.inl rfl)) (pgs_cons (pg_name (i := 5) nd rfl (Or.inl rfl)) pgs_nil))))))
      (pss_cons (ps_if (PW.pt (pw_or (pt_not (pt_val (pe_call G_is_number hr_is_number (by rfl) T.g_is_number T.k_is_number b_is_number .nil pass0 (pa_cons (pv 2) pa_nil)))) (pw_or (pt_not (pt_val (pe_call G_is_number hr_is_number (by rfl) T.g_is_number T.k_is_number b_is_number .nil pass0 (pa_cons (pv 5) pa_nil)))) (pw_or (pt_cmpR op_ge (pv 2) (pv 0) (nomark _)) (pw_or1 (pt_cmpR op_ge (pv 5) (pv 0) (nomark _)))))))
        (pss_one (ps_ret pe_bl))
        pss_nil)
      (pss_one (ps_ret (pe_and (pe_call G_is_word_or_empty hr_is_word_or_empty (by rfl) T.g_is_word_or_empty T.k_is_word_or_empty b_is_word_or_empty .nil pass0 (pa_cons (pv 3) pa_nil)) (pe_one (pe_call G_is_word_or_empty hr_is_word_or_empty (by rfl) T.g_is_word_or_empty T.k_is_word_or_empty b_is_word_or_empty .nil pass0 (pa_cons (pv 4) pa_nil))))))))), ?_⟩
    refine ⟨_, rfl, v, .ty "tuple", _, _, _, rfl, .ty "tuple", pl.tyX, pl.kit "tuple" (.inr (.inl rfl)), _, rfl, ?_⟩
    cases pl with
    | non => exact iteT (iteT k)
    | bl b => exact iteT (iteT k)
    | int i => exact iteT (iteT k)
    | str h => exact iteT (iteT k)
    | @lst a xs h =>
      have e : stepB H many (.ref a) = false := by unfold stepB; simp only [h]
      rw [e] at k
      exact iteT (iteT k)
    | @dK a xs h =>
      have e : stepB H many (.ref a) = false := by unfold stepB; simp only [h]
      rw [e] at k
      exact iteT (iteT k)
    | @tup a xs h =>
      refine iteF ⟨_, rfl, a, _, rfl, .inr (SqT.of h), rfl, _, rfl, ?_⟩
      rcases Decidable.em (xs.length = 4) with hl | hl
      · have ed : (!decide (V.int (xs.length : Int) = V.int 4)) = false := by rw [hl]; rfl
        show if (!decide (V.int (xs.length : Int) = V.int 4)) = true then _ else _
        rw [ed]
        refine iteF ?_
        match xs, hl, h, al with
        | [x, kk, ss, g], _, h, al =>
          have alx := al a _ rfl h
          obtain ⟨tx, px, nx⟩ := alx x (by simp)
          obtain ⟨tk, pk, nk⟩ := alx kk (by simp)
          obtain ⟨ts, ps, ns⟩ := alx ss (by simp)
          obtain ⟨tg, pg, ng⟩ := alx g (by simp)
          have isInt : ∀ y : V, numB y = true → ∃ i, y = .int i ∧ 0 ≤ i := fun y hy => by
            cases y with
            | int i => exact ⟨i, rfl, of_decide_eq_true hy⟩
            | _ => exact absurd hy Bool.false_ne_true
          have sb : stepB H many (.ref a) = fourB many x kk ss g := by unfold stepB; simp only [h]
          refine ⟨_, rfl, a, _, rfl, SqT.of h, rfl, _, _, rfl, _, _, rfl, _, _, rfl, _, _, rfl, rfl, ?_⟩
          refine ⟨_, rfl, x, tx, rfl, px, _, rfl, ?_⟩
          cases cx : numB x with
          | false =>
            have e : stepB H many (.ref a) = false := by
              rw [sb]
              cases x with
              | int i =>
                have z : decide (0 ≤ i) = false := cx
                cases g <;> simp only [fourB, z, Bool.false_and]
              | _ => rfl
            rw [e] at k
            exact iteT (iteT k)
          | true =>
            obtain ⟨i, rfl, hi⟩ := isInt x cx
            refine iteF ⟨_, rfl, g, tg, rfl, pg, _, rfl, ?_⟩
            cases cg : numB g with
            | false =>
              have e : stepB H many (.ref a) = false := by
                rw [sb]
                cases g with
                | int j =>
                  have z : decide (0 ≤ j) = false := cg
                  simp only [fourB, z, Bool.false_and, Bool.and_false]
                | _ => rfl
              rw [e] at k
              exact iteT (iteT k)
            | true =>
              obtain ⟨j, rfl, hj⟩ := isInt g cg
              have sb' : stepB H many (.ref a) = (decide (0 ≤ i) && decide (0 ≤ j) && decide (i < many) && decide (j < many) && wordE kk && wordE ss) := sb
              rw [decide_eq_true hi, decide_eq_true hj, Bool.true_and, Bool.true_and] at sb'
              refine iteF ⟨_, rfl, _, rfl, _, _, rfl, rfl, _, rfl, ?_⟩
              rcases Decidable.em (many ≤ i) with c1 | c1
              · have e : stepB H many (.ref a) = false := by rw [sb', decide_eq_false (show ¬ i < many by omega)]; rfl
                rw [e] at k
                rw [decide_eq_true c1]
                exact iteT (iteT k)
              · rw [decide_eq_false c1]
                refine iteF ⟨_, rfl, _, rfl, _, _, rfl, rfl, _, rfl, ?_⟩
                rw [decide_eq_true (show i < many by omega), Bool.true_and] at sb'
                rcases Decidable.em (many ≤ j) with c2 | c2
                · have e : stepB H many (.ref a) = false := by rw [sb', decide_eq_false (show ¬ j < many by omega)]; rfl
                  rw [e] at k
                  rw [decide_eq_true c2]
                  exact iteT k
                · rw [decide_eq_false c2]
                  refine iteF ?_
                  rw [decide_eq_true (show j < many by omega), Bool.true_and] at sb'
                  refine ⟨_, rfl, kk, tk, rfl, pk, nk, _, rfl, ?_⟩
                  rw [sb'] at k
                  cases ck : wordE kk with
                  | false => rw [ck] at k; exact iteF k
                  | true =>
                    rw [ck, Bool.true_and] at k
                    exact iteT ⟨_, rfl, ss, ts, rfl, ps, ns, k⟩
      · have ed : (!decide (V.int (xs.length : Int) = V.int 4)) = true := by
          rw [decide_eq_false fun z => hl (by have := V.int.inj z; omega)]; rfl
        have e : stepB H many (.ref a) = false := by
          unfold stepB
          simp only [h]
          match xs, hl with
          | [], _ => rfl
          | [_], _ => rfl
          | [_, _], _ => rfl
          | [_, _, _], _ => rfl
          | [_, _, _, _], hl => exact absurd rfl hl
          | _ :: _ :: _ :: _ :: _ :: _, _ => rfl
        rw [e] at k
        show if (!decide (V.int (xs.length : Int) = V.int 4)) = true then _ else _
        rw [ed]
        exact iteT k
end
end K1
end
section
/-! Tables of sets, whatever stands in them: one more member, and laying anew. -/
namespace MX
open PySem PySem.Spec PyProof.Rows L2

/-- the hashes of a set's rows -/
abbrev hashes (es : Array (Int × Value)) : List Int := es.toList.map (·.1)

theorem len_hashes (es : Array (Int × Value)) : (hashes es).length = es.size := by simp [hashes]

theorem fits_ok {t : SetTable} {es : Array (Int × Value)} (T : TabOk t (hashes es)) (sp : es.size * 5 < t.mask * 3) : t.fits es.size = true := by
  have e := T.sz
  rw [len_hashes] at e
  simp only [SetTable.fits, SetTable.fill, T.dm, e, Bool.and_eq_true, beq_self_eq_true, decide_eq_true_eq, true_and]
  simp
  omega

/-- a row more -/
theorem tab_in {t : SetTable} {es : Array (Int × Value)} (T : TabOk t (hashes es)) (h : Int) (x : Value) {K : Nat} (free : way t.mask h K ∉ t.place.toList) (full : ∀ k, k < K → way t.mask h k ∈ t.place.toList) :
    ∃ p t', t.put (way t.mask h K) = (t', p) ∧ TabOk t' (hashes (SetTable.insertAt es p (h, x))) ∧ t'.mask = t.mask ∧ t'.led = t.led ∧
      (SetTable.insertAt es p (h, x)).size = es.size + 1 ∧ (SetTable.insertAt es p (h, x)).toList.Perm ((h, x) :: es.toList) ∧ t'.fill = es.size + 1 := by
  obtain ⟨e1, e2, T', e3, e4, _, _, _, e5⟩ := T.put free full
  refine ⟨(t.put (way t.mask h K)).2, (t.put (way t.mask h K)).1, rfl, ?_, e3, e4, ?_, ?_, ?_⟩
  · rw [e1]
    unfold hashes
    rw [SetTable.toList_insertAt, List.map_append, List.map_take, List.map_cons, List.map_drop]
    exact T'
  · have q := (SetTable.insertAt_perm es (t.put (way t.mask h K)).2 (h, x)).length_eq
    simpa using q
  · refine (SetTable.insertAt_perm es _ (h, x)).trans ?_
    rw [Array.toList_push]
    exact List.perm_append_singleton _ _
  · rw [e5, len_hashes]

/-- the masks that a set of fewer than 64 members can have when it is laid anew -/
theorem next_mask {m n : Nat} (hm : MaskOk m) (few : n < 64) (before : (n - 1) * 5 < m * 3) (full : n * 5 ≥ m * 3) : ∃ M, SetTable.sizeAbove (SetTable.grown n) - 1 = M ∧ MaskOk M ∧ n ≤ M ∧ n * 5 < M * 3 ∧ SetTable.sizeAbove (SetTable.grown n) ≤ 128 := by
  rcases hm with e | e | e
  · have : n = 5 := by omega
    subst this
    rw [size_20]
    exact ⟨31, rfl, .inr (.inl rfl), by decide, by decide, by decide⟩
  · have : n = 19 := by omega
    subst this
    rw [size_76]
    exact ⟨127, rfl, .inr (.inr rfl), by decide, by decide, by decide⟩
  · omega

theorem pick_map (es : Array (Int × Value)) : ∀ l : List Nat, (∀ i ∈ l, i < es.size) → ∃ rows, l.filterMap (es[·]?) = rows ∧ rows.length = l.length ∧ rows.map (·.1) = l.map fun i => (es.map (·.1)).getD i 0
  | [], _ => ⟨[], rfl, rfl, rfl⟩
  | i :: l, h => by
    obtain ⟨rows, e1, e2, e3⟩ := pick_map es l fun j hj => h j (List.mem_cons_of_mem _ hj)
    have hi : i < es.size := h i List.mem_cons_self
    have e0 : es[i]? = some es[i] := Array.getElem?_eq_getElem hi
    refine ⟨es[i] :: rows, by rw [List.filterMap_cons_some e0, e1], by simp [e2], ?_⟩
    rw [List.map_cons, List.map_cons, e3]
    congr 1
    rw [Array.getD_eq_getD_getElem?, Array.getElem?_map, e0] <;> rfl

/-- all laid anew, when the table is too full -/
theorem tab_anew {t : SetTable} {es : Array (Int × Value)} (T : TabOk t (hashes es)) (few : es.size < 64) (before : (es.size - 1) * 5 < t.mask * 3) (full : t.tooFull = true) :
    ∃ t' order es', t.relaid (es.map (·.1)) (SetTable.grown es.size) = some (t', order) ∧ order.filterMap (es[·]?) = es' ∧ es'.toList.Perm es.toList ∧ es'.size = es.size ∧
      coversAll order es.size = true ∧ TabOk t' (hashes es') ∧ t'.led = t.led ∧ es'.size * 5 < t'.mask * 3 ∧ SetTable.sizeAbove (SetTable.grown es.size) ≤ 128 := by
  have hfull : es.size * 5 ≥ t.mask * 3 := by
    have e := T.sz
    rw [len_hashes] at e
    simpa [SetTable.tooFull, SetTable.fill, T.dm, e] using full
  obtain ⟨M, hM, ok, hn, sp, small⟩ := next_mask T.mok few before hfull
  obtain ⟨t', order, e, pm, T', em, el, _, _⟩ := relaid_ok t (hs := es.map (·.1)) hM ok (by rw [Array.size_map]; exact hn)
  rw [Array.size_map] at pm
  have inside : ∀ i ∈ order.toList, i < es.size := fun i hi => List.mem_range.mp (pm.mem_iff.mp hi)
  obtain ⟨rows, r1, r2, r3⟩ := pick_map es order.toList inside
  have et : (order.filterMap (es[·]?)).toList = rows := by rw [Array.toList_filterMap, r1]
  have pe : (order.filterMap (es[·]?)).toList.Perm es.toList := by
    rw [Array.toList_filterMap]
    exact (pm.filterMap _).trans (by rw [filterMap_getElem?_range])
  have sz : (order.filterMap (es[·]?)).size = es.size := by
    rw [← Array.length_toList, pe.length_eq, Array.length_toList]
  refine ⟨t', order, _, e, rfl, pe, sz, ?_, ?_, el, ?_, small⟩
  · unfold coversAll
    exact List.isPerm_iff.mpr pm
  · unfold hashes
    rw [et, r3]
    exact T'
  · rw [sz, em]
    exact sp

/-- an empty slot is what a search meets that finds no such hash -/
theorem free_slot_ok {t : SetTable} {es : Array (Int × Value)} (T : TabOk t (hashes es)) (sp : es.size * 5 < t.mask * 3) (h : Int) :
    ∃ K, t.freeSlot h = some (way t.mask h K, false) ∧ way t.mask h K ∉ t.place.toList ∧ ∀ k, k < K → way t.mask h k ∈ t.place.toList := by
  obtain ⟨K, few, out, ins⟩ := T.first (by rw [len_hashes]; omega) h
  refine ⟨K, ?_, out, ins⟩
  have z := go_spec t T.ris T.dm (fun _ => h + 1) h (10 * SetTable.turns t.mask) K (runAt t.mask (SetTable.bits h % (t.mask + 1)) (SetTable.bits h)) rfl few ins out
  have e : t.probe (fun _ => h + 1) h (t.probeStart h) = some (.empty (way t.mask h K) none) := by
    rcases z with ⟨_, _, _, _, bad, _⟩ | ⟨_, e⟩
    · exact absurd (show h + 1 = h from bad) (by omega)
    · exact e
  unfold SetTable.freeSlot
  rw [e] <;> rfl

/-- what a scan lays -/
theorem lay_in {t : SetTable} {es : Array (Int × Value)} (T : TabOk t (hashes es)) (sp : es.size * 5 < t.mask * 3) (few : es.size + 1 < 64) (h : Int) (x : Value) :
    ∃ es' t', layNew t es h x = (es', t', false, false) ∧ TabOk t' (hashes es') ∧ t'.mask = t.mask ∧ t'.led = t.led ∧ es'.size = es.size + 1 ∧ es'.toList.Perm ((h, x) :: es.toList) := by
  obtain ⟨K, e, out, ins⟩ := free_slot_ok T sp h
  obtain ⟨p, t', e1, T', em, el, sz, pm, ef⟩ := tab_in T h x out ins
  have hfit : t'.fits (SetTable.insertAt es p (h, x)).size = true := by
    have q := T'.sz
    rw [len_hashes] at q
    have big : 7 ≤ t'.mask := by rcases T'.mok with z | z | z <;> omega
    simp only [SetTable.fits, ef, q, beq_self_eq_true, Bool.true_and, decide_eq_true_eq]
    omega
  refine ⟨_, t', ?_, T', em, el, sz, pm⟩
  unfold layNew
  rw [e]
  simp only [e1]
  rw [show t'.orStandIn (SetTable.insertAt es p (h, x)).size = t' from by unfold SetTable.orStandIn; rw [if_pos hfit], hfit] <;> rfl
end MX
end
section
/-! A set with fewer than 64 members: its table is sound; adding to it. -/
namespace MX
open PySem PySem.Spec PyProof.Rows L2

/-- at a stands a set of these rows -/
structure Held (w : World) (h : Heap) (a : Addr) (es : Array (Int × Value)) (ep : Nat) (t : SetTable) : Prop where
  obj : ∃ o, h.get? a = some o ∧ o.ExactSet ∧ o.data = .set es ep t
  tab : TabOk t (hashes es)
  order : w.params.followText "set-order" = true ∨ t.led = true
  space : es.size * 5 < t.mask * 3
  few : es.size < 64

theorem Held.fits {w : World} {h : Heap} {a : Addr} {es : Array (Int × Value)} {ep : Nat} {t : SetTable} (R : Held w h a es ep t) : t.fits es.size = true := fits_ok R.tab R.space
theorem Held.stays {w : World} {h h' : Heap} {a : Addr} {es : Array (Int × Value)} {ep : Nat} {t : SetTable} (R : Held w h a es ep t) (k : ∀ o, h.get? a = some o → h'.get? a = some o) : Held w h' a es ep t := by
  obtain ⟨o, ho, more⟩ := R.obj
  exact { R with obj := ⟨o, k o ho, more⟩ }
/-- plain or not says nothing of the slots -/
theorem dull {t : SetTable} {hs : List Int} (T : TabOk t hs) : TabOk { t with plain := false } hs := by
  cases t
  exact ⟨T.ris, T.dm, T.sz, T.mok, T.bd, T.reach⟩

section
variable {P : Program} {w : World} {A : Around} {E : Value → Shared → Prop} {s : Shared} {a : Addr} {es : Array (Int × Value)} {ep : Nat} {t : SetTable}

/-- other rows are stored -/
theorem put_rows {o : Obj} {es' : Array (Int × Value)} {t' : SetTable} {h : Heap} (ho : h.get? a = some o) (hx : o.ExactSet) (hd : o.data = .set es ep t) (T : TabOk t' (hashes es')) (ord : w.params.followText "set-order" = true ∨ t'.led = true)
    (sp : es'.size * 5 < t'.mask * 3) (few : es'.size < 64) : Held w (h.update a (Obj.putSet es' t')) a es' (ep + 1) t' := by
  refine ⟨⟨{ o with data := .set es' (ep + 1) t' }, ?_, hx, rfl⟩, T, ord, sp, few⟩
  have e := Heap.get?_update_self (Obj.putSet es' t') ho (by rw [putSet_of es' t' hd] <;> rfl)
  rw [putSet_of es' t' hd] at e
  exact e

theorem sizes {n : Nat} (few : n < 64) : n ≤ sizeLine := by rw [sizeLine_eq]; omega

/-- behind a store: laid anew by a scan's way, if the table is too full -/
theorem scan_end {Q : Option Bool → Shared → Prop} {o : Obj} {es1 : Array (Int × Value)} {t1 : SetTable} {n : Nat} (ho : s.heap.get? a = some o) (hx : o.ExactSet) (hd : o.data = .set es ep t)
    (T : TabOk t1 (hashes es1)) (ord : w.params.followText "set-order" = true ∨ t1.led = true) (sp : n * 5 < t1.mask * 3) (hn : es1.size = n + 1) (few : es1.size < 64) {g : Bool → Sem Unit} (hg : g false = pure ())
    (q : ∀ h' es2 ep2 t2, Heap.SameBut a s.heap h' → Held w h' a es2 ep2 t2 → es2.toList.Perm es1.toList → Q (some true) { s with heap := h' }) :
    wpAny (model P w) A (do
      storeSet a es1 t1
      if (!false && t1.tooFull) = true then do
        g (relayAll t1 es1 (SetTable.grown es1.size)).2.2
        storeSet a (relayAll t1 es1 (SetTable.grown es1.size)).1 (relayAll t1 es1 (SetTable.grown es1.size)).2.1
        pure (some true)
      else pure (some true)) Q E s := by
  refine wpAny_bind (wpAny_storeSet_of ho hd ?_ (sizes few))
  have same1 := Heap.SameBut.update s.heap a (Obj.putSet es1 t1)
  have o1 := Heap.get?_update_self (Obj.putSet es1 t1) ho (by rw [putSet_of es1 t1 hd] <;> rfl)
  rw [putSet_of es1 t1 hd] at o1
  rcases Bool.eq_false_or_eq_true t1.tooFull with full | notFull
  · obtain ⟨t2, order, es2, e1, e2, pm, sz, cov, T2, el, sp2, _⟩ := tab_anew T few (by rw [hn]; exact sp) full
    have fit2 : t2.fits es2.size = true := fits_ok T2 sp2
    have er : relayAll t1 es1 (SetTable.grown es1.size) = (es2, t2, false) := by
      unfold relayAll
      rw [e1]
      simp only [e2, cov, fit2, Bool.and_self, if_true]
    rw [full, er]
    refine wp_if_pos rfl ?_
    dsimp only
    rw [hg]
    refine wpAny_bind (wpAny_pure ?_)
    refine wpAny_bind (wpAny_storeSet_of o1 rfl ?_ (sizes (by rw [sz]; exact few)))
    refine wpAny_pure (q _ es2 _ t2 (same1.trans (Heap.SameBut.update _ a _)) (put_rows o1 hx rfl T2 (ord.imp id fun z => el.trans z) sp2 (by rw [sz]; exact few)) pm)
  · rw [notFull]
    refine wp_if_neg (by decide) (wpAny_pure (q _ es1 _ t1 same1 (put_rows ho hx hd T ord ?_ few) (List.Perm.refl _)))
    have e := T.sz
    rw [len_hashes] at e
    have big := notFull
    simp only [SetTable.tooFull, SetTable.fill, T.dm, e, decide_eq_false_iff_not] at big
    simp at big
    omega

/-- the same by the other way of laying anew -/
theorem relay_end {Q : Unit → Shared → Prop} {o : Obj} (ho : s.heap.get? a = some o) (hx : o.ExactSet) (hd : o.data = .set es ep t) (T : TabOk t (hashes es)) (ord : w.params.followText "set-order" = true ∨ t.led = true)
    {n : Nat} (sp : n * 5 < t.mask * 3) (hn : es.size = n + 1) (few : es.size < 64) (full : t.tooFull = true)
    (q : ∀ h' es2 ep2 t2, Heap.SameBut a s.heap h' → Held w h' a es2 ep2 t2 → es2.toList.Perm es.toList → Q () { s with heap := h' }) : wpAny (model P w) A (setRelay a (SetTable.grown es.size)) Q E s := by
  obtain ⟨t2, order, es2, e1, e2, pm, sz, _, T2, el, sp2, low⟩ := tab_anew T few (by rw [hn]; exact sp) full
  have fit : t.fits es.size = true := by
    have e := T.sz
    rw [len_hashes] at e
    have big : 7 ≤ t.mask := by rcases T.mok with z | z | z <;> omega
    simp only [SetTable.fits, SetTable.fill, T.dm, e, beq_self_eq_true, Bool.true_and, decide_eq_true_eq]
    simp
    omega
  rw [setRelay_eq]
  refine wpAny_bind (wpAny_setState_of ho hd fit ?_)
  dsimp only
  refine wp_if_neg (by rw [sizeLine_eq]; omega) ?_
  try refine wpAny_bind (wpAny_pure ?_)
  rw [e1]
  dsimp only
  rw [e2]
  have eq0 : ¬ (es2.size != es.size) = true := by rw [sz]; simp
  refine wpAny_bind (wp_if_neg eq0 ?_)
  try refine wpAny_bind (wpAny_pure ?_)
  refine wpAny_pure ?_
  refine wpAny_storeSet_of ho hd ?_ (sizes (by rw [sz]; exact few))
  exact q _ es2 _ t2 (Heap.SameBut.update _ a _) (put_rows ho hx hd T2 (ord.imp id fun z => el.trans z) sp2 (by rw [sz]; exact few)) pm
end
end MX
end
section
/-! Adding: by a scan (numbers, words), and by the table (tuples). -/
namespace MX
open PySem PySem.Spec PyProof.Rows L2

section
variable {P : Program} {w : World} {A : Around} {E : Value → Shared → Prop} {s : Shared} {a : Addr} {es : Array (Int × Value)} {ep : Nat} {t : SetTable}

/-- a number or a word is added -/
theorem add_leaf {K : Type} [DecidableEq K] {knd : KeyKind P w K} {k : K} {x : Value} {Q : Bool → Shared → Prop} (R : Held w s.heap a es ep t) (el : ElemsOf knd es.toList) (hk : knd.is k x = true) (hx : x.scannable = true) (room : es.size + 1 < 64)
    (old : ∀ e ∈ es.toList, knd.is k e.2 = true → Q false s)
    (new : (∀ e ∈ es.toList, knd.is k e.2 = false) → ∀ h' es' ep' t', Heap.SameBut a s.heap h' → Held w h' a es' ep' t' → es'.toList.Perm ((knd.hash k, x) :: es.toList) → Q true { s with heap := h' }) :
    wpAny (model P w) A (setAddHashed a x (knd.hash k)) Q E s := by
  obtain ⟨o, ho, ex, hd⟩ := R.obj
  have scan : byScan x es = true := byScan_of hx (Nat.lt_trans R.few (by decide)) el
  unfold setAddHashed
  refine wpAny_holding ?_
  rw [show (100000 : Nat) = 99999 + 1 from rfl, setAddHashedIn_succ]
  refine wpAny_bind (wpAny_setState_of ho hd R.fits ?_)
  dsimp only
  refine wp_if_pos scan ?_
  unfold setAddByScan
  refine wpAny_bind (wpAny_bind (wpAny_rule (wpAny_bind (wpAny_setScan_of hk ho hd R.fits el ?_))))
  cases hf : List.findIdx? (fun e => knd.is k e.2) es.toList with
  | some j =>
    obtain ⟨hj, yes, _⟩ := List.findIdx?_eq_some_iff_getElem.mp hf
    exact wpAny_pure (wpAny_pure (old _ (List.getElem_mem hj) yes))
  | none =>
    have absent : ∀ e ∈ es.toList, knd.is k e.2 = false := fun e he => by
      have z := List.findIdx?_eq_none_iff.mp hf e he
      simpa using z
    obtain ⟨es1, t1, e1, T1, em, eled, sz, pm⟩ := lay_in R.tab R.space room (knd.hash k) x
    dsimp only
    rw [e1]
    dsimp only
    refine wpAny_bind (wpAny_pure ?_)
    have ord1 : w.params.followText "set-order" = true ∨ t1.led = true := R.order.imp id fun z => eled.trans z
    have sp1 : es.size * 5 < t1.mask * 3 := by rw [em]; exact R.space
    have last : ∀ h' es2 ep2 t2, Heap.SameBut a s.heap h' → Held w h' a es2 ep2 t2 → es2.toList.Perm es1.toList → Q true { s with heap := h' } := fun h' es2 ep2 t2 sb H2 p2 => new absent h' es2 ep2 t2 sb H2 (p2.trans pm)
    by_cases pl : t1.plain = true
    · refine wp_if_pos pl ?_
      rw [hashByValue_scannable 8 hx]
      refine wpAny_bind (wpAny_pure ?_)
      refine scan_end ho ex hd (t1 := if plainKind x = true then t1 else { t1 with plain := false }) (n := es.size) ?_ ?_ ?_ sz (by rw [sz]; exact room) rfl fun h' es2 ep2 t2 sb H2 p2 => ?_
      · split
        · exact T1
        · exact dull T1
      · split
        · exact ord1
        · exact ord1
      · split
        · exact sp1
        · exact sp1
      · exact wpAny_pure (last h' es2 ep2 t2 sb H2 p2)
    · refine wp_if_neg pl ?_
      refine wpAny_bind (wpAny_pure ?_)
      refine scan_end ho ex hd (t1 := t1) (n := es.size) T1 ord1 sp1 sz (by rw [sz]; exact room) rfl fun h' es2 ep2 t2 sb H2 p2 => ?_
      exact wpAny_pure (last h' es2 ep2 t2 sb H2 p2)

/-- a place on the way of a hash -/
abbrev spot (m : Nat) (h : Int) (c : Nat) : SetTable.Probe := nth m (runAt m (SetTable.bits h % (m + 1)) (SetTable.bits h)) c
theorem spot_plain (m : Nat) (h : Int) : ∀ c, (spot m h c).dummy = none := by
  have step : ∀ p : SetTable.Probe, (adv m p).dummy = p.dummy := fun p => by unfold adv; split <;> rfl
  intro c
  induction c with
  | zero => rfl
  | succ c ih => show (nth m _ (c + 1)).dummy = none; rw [nth_succ, step]; exact ih

/-- the search of an adding: what is the same is found, or the first empty slot -/
theorem seek {h : Int} {x : Value} {same : Value → Bool} {Q : SetFound → Shared → Prop} (R : Held w s.heap a es ep t)
    (eqs : ∀ e ∈ es.toList, e.1 = h → ∀ (Q' : Bool → Shared → Prop), Q' (same e.2) s → wpAny (model P w) A (eqBool e.2 x) Q' E s)
    (refs : ∀ e ∈ es.toList, ∃ b, e.2 = Value.ref b)
    (seen : ∀ (ys : List Value) (Q' : Bool → Shared → Prop), (∀ y ∈ ys, ∃ e ∈ es.toList, e.2 = y) → Q' false s → wpAny (model P w) A (searchCouldBeSeen x ys) Q' E s)
    {K : Nat} (low : K < 10 * SetTable.turns t.mask) (out : way t.mask h K ∉ t.place.toList) (ins : ∀ k, k < K → way t.mask h k ∈ t.place.toList)
    (old : ∀ e ∈ es.toList, e.1 = h → same e.2 = true → Q (.there none) s) (new : (∀ e ∈ es.toList, e.1 = h → same e.2 = false) → Q (.free (way t.mask h K) false) s) :
    ∀ (f c : Nat) (stand : Option SetTable.Probe), stand.getD (t.probeStart h) = spot t.mask h c → c ≤ K → K - c < f →
      (∀ k, k < c → ∀ (i : Nat) e, t.place.toList[i]? = some (way t.mask h k) → es[i]? = some e → e.1 = h → same e.2 = false) →
      wpAny (model P w) A (setSearchFrom a x h true f stand) Q E s := by
  obtain ⟨o, ho, ex, hd⟩ := R.obj
  have odd : ¬ t.gaveWay = true := by
    unfold SetTable.gaveWay
    rw [mask_odd R.tab.mok]
    decide
  have rowAt : ∀ {i : Nat} {j : Nat}, t.place.toList[i]? = some j → ∃ e, es[i]? = some e ∧ e ∈ es.toList := fun {i j} hi => by
    have h1 : i < t.place.toList.length := (List.getElem?_eq_some_iff.mp hi).1
    have h2 := R.tab.sz
    rw [len_hashes] at h2
    have h3 : i < es.size := by rw [Array.length_toList, h2] at h1; exact h1
    exact ⟨es[i], Array.getElem?_eq_getElem h3, by simp⟩
  intro f
  induction f with
  | zero => intro c _ _ _ hf; exact absurd hf (Nat.not_lt_zero _)
  | succ f again =>
    intro c stand hst hc hf past
    have move : ∀ q, nth t.mask (spot t.mask h c) q = spot t.mask h (c + q) := fun q => (nth_add t.mask c _ q).symm
    have far : c + (K - c) = K := by omega
    rw [setSearchFrom_succ]
    refine wpAny_bind (wpAny_setState_of ho hd R.fits ?_)
    dsimp only
    refine wp_if_neg odd ?_
    try refine wpAny_bind (wpAny_pure ?_)
    have met := go_spec t R.tab.ris R.tab.dm (fun i => (es[i]?.map (·.1)).getD 0) h (10 * SetTable.turns t.mask) (K - c) (spot t.mask h c) (spot_plain _ _ c) (by omega)
      (fun q hq => by rw [move]; exact ins (c + q) (by omega)) (by rw [move, far]; exact out)
    rw [hst]
    have passed : ∀ q, q ≤ K - c → (∀ (k' i' : Nat), k' < q → t.place.toList[i']? = some (nth t.mask (spot t.mask h c) k').j → (es[i']?.map (·.1)).getD 0 ≠ h) →
        ∀ k, k < c + q → ∀ (i : Nat) e, t.place.toList[i]? = some (way t.mask h k) → es[i]? = some e → e.1 = h → same e.2 = false := fun q hq no k hk i e hi he eh => by
      rcases Nat.lt_or_ge k c with z | z
      · exact past k z i e hi he eh
      · refine absurd ?_ (no (k - c) i (by omega) (by rw [move, show c + (k - c) = k by omega]; exact hi))
        rw [he]
        exact eh
    rcases met with ⟨q, i, hq, hi, hh, no, e⟩ | ⟨no, e⟩
    · have e' : t.probe (fun i => (es[i]?.map (·.1)).getD 0) h (spot t.mask h c) = _ := e
      rw [e']
      dsimp only
      rw [move] at hi
      obtain ⟨r, hr, mem⟩ := rowAt hi
      have hrh : r.1 = h := by
        rw [hr] at hh
        exact hh
      obtain ⟨b, hb⟩ := refs r mem
      have go_on : wpAny (model P w) A (searchRest a x h true f es t (nth t.mask (spot t.mask h c) q).j i (nth t.mask (spot t.mask h c) (q + 1))) Q E s := by
        unfold searchRest
        rw [hr]
        dsimp only
        refine wpAny_bind (wpAny_holding (eqs r mem hrh _ ?_))
        refine wpAny_bind (wpAny_setState_of ho hd R.fits ?_)
        dsimp only
        cases hs : same r.2 with
        | true => exact wp_if_pos rfl (wpAny_pure (old r mem hrh hs))
        | false =>
          refine wp_if_neg (by decide) ?_
          try refine wpAny_bind (wpAny_pure ?_)
          rw [sameMem]
          dsimp only
          have live : t.slot (nth t.mask (spot t.mask h c) q).j = .live i := by rw [move]; exact slot_live R.tab.ris hi
          simp only [if_true, live, hr]
          rw [hb]
          refine wpAny_bind (wpAny_isSame_ref_self (wpAny_bind (wpAny_pure ?_)))
          simp only [if_true]
          refine wp_if_neg (by decide) ?_
          refine again (c + (q + 1)) _ (by rw [← move]; rfl) (by omega) (by omega) fun k hk i' e2 hi' he2 eh => ?_
          rcases Nat.lt_or_ge k (c + q) with z | z
          · exact passed q (by omega) no k z i' e2 hi' he2 eh
          · have ek : k = c + q := by omega
            rw [ek] at hi'
            have l2 := slot_live R.tab.ris hi'
            have l1 := slot_live R.tab.ris hi
            rw [l1] at l2
            injection l2 with l2
            rw [← l2, hr] at he2
            rw [← Option.some.inj he2]
            exact hs
      by_cases led : t.led = true
      · refine wp_if_neg (by simp [led]) ?_
        try refine wpAny_bind (wpAny_pure ?_)
        exact go_on
      · refine wp_if_pos (by simp [led]) ?_
        refine wpAny_bind (seen _ _ (fun y hy => ?_) ?_)
        · obtain ⟨e2, m2, rfl⟩ := List.mem_map.mp hy
          have m3 : e2 ∈ es ∧ e2.1 = h := by simpa using m2
          exact ⟨e2, by simpa using m3.1, rfl⟩
        · refine wp_if_neg (by decide) ?_
          try refine wpAny_bind (wpAny_pure ?_)
          exact go_on
    · have e' : t.probe (fun i => (es[i]?.map (·.1)).getD 0) h (spot t.mask h c) = _ := e
      rw [e']
      dsimp only
      refine wpAny_pure ?_
      rw [move, far]
      refine new fun r mem eh => ?_
      obtain ⟨i, hi, er⟩ := List.getElem_of_mem mem
      have hi2 : i < es.size := by simpa using hi
      have hr : es[i]? = some r := by rw [Array.getElem?_eq_getElem hi2, ← er] <;> simp
      have hp : i < t.place.toList.length := by
        have h2 := R.tab.sz
        rw [len_hashes] at h2
        rw [Array.length_toList, h2]
        exact hi2
      have hhs : (hashes es)[i]? = some h := by
        unfold hashes
        rw [List.getElem?_map, Array.getElem?_toList, hr, ← eh] <;> rfl
      obtain ⟨k, hk, ek⟩ := R.tab.before out hhs (List.getElem?_eq_getElem hp)
      exact passed (K - c) (Nat.le_refl _) no k (by rw [far]; exact hk) i r (by rw [List.getElem?_eq_getElem hp, ek]) hr eh
end
end MX
end
section
/-! Sets of tuples of numbers and words. -/
namespace MX
open PySem PySem.Spec PyProof.Rows L2

abbrev MT : Type := List Key
/-- the tuple at a has these items -/
abbrev TAt (P : Program) (w : World) (h : Heap) (k : MT) (a : Addr) : Prop := IsTupleKey (mixKind P w) h k a
abbrev mhash (P : Program) (w : World) (k : MT) : Int := tupleKeyHash (mixKind P w) k

/-- a number or a word -/
def Leaf (v : Value) : Prop := (∃ i t, v = .int i t) ∨ ∃ x t, v = .str x t
theorem Leaf.of_key {P : Program} {w : World} {k : Key} {v : Value} (h : (mixKind P w).is k v = true) : Leaf v := by
  rcases keyIs_shape h with ⟨i, t, _, e⟩ | ⟨x, t, _, e⟩
  · exact .inl ⟨i, t, e⟩
  · exact .inr ⟨x, t, e⟩
theorem leaves {P : Program} {w : World} {k : MT} {vs : List Value} (h : ItemsAre (mixKind P w) k vs) : ∀ v ∈ vs, Leaf v := by
  induction h with
  | nil => intro v hv; cases hv
  | cons h1 _ ih =>
    intro v hv
    rcases List.mem_cons.mp hv with rfl | hv
    · exact Leaf.of_key h1
    · exact ih v hv
theorem leaf_class {v : Value} (l : Leaf v) (n : Nat) : ofAClassStatement n v = pure false := by
  rcases l with ⟨i, t, rfl⟩ | ⟨x, t, rfl⟩ <;> cases n <;> rfl
theorem leaf_hash {v : Value} (l : Leaf v) (n : Nat) : ∃ b, hashByValue n v = pure b := by
  rcases l with ⟨i, t, rfl⟩ | ⟨x, t, rfl⟩
  · exact ⟨true, by cases n <;> rfl⟩
  · exact ⟨false, by cases n <;> rfl⟩
theorem tat_kept {P : Program} {w : World} {h h' : Heap} {k : MT} {a : Addr} (x : TAt P w h k a) (keep : ∀ b o, h.get? b = some o → h'.get? b = some o) : TAt P w h' k a := by
  obtain ⟨o, items, n, ho, more⟩ := x
  exact ⟨o, items, n, keep a o ho, more⟩

section
variable {P : Program} {w : World} {A : Around} {E : Value → Shared → Prop} {s : Shared}

/-- the items of a sequence are read off its object -/
theorem items_read {M : Model} {β : Type} {v : Value} {a : Addr} {items : Array Value} {k : Option (Array Value) → Sem β} {Q : β → Shared → Prop} (at_ : ∃ o n, s.heap.get? a = some o ∧ o.data = .seq items n) (go : wpAny M A (k (some items)) Q E s) (ev : v = .ref a := by rfl) : wpAny M A (seqItems? v >>= k) Q E s := by
  obtain ⟨o, n, ho, hd⟩ := at_
  subst ev
  exact wpAny_bind (wpAny_seqItems ho hd go)
/-- a loop over items, item by item -/
theorem each_item {M : Model} {β : Type} {items : Array Value} {z : β} {f : Value → β → Sem (ForInStep β)} {Q : β → Shared → Prop} (I : List Value → β → Shared → Prop) (i0 : I items.toList z s)
    (turn : ∀ v rest r s', I (v :: rest) r s' → wpAny M A (f v r) (fun y s'' => match y with | .yield r' => I rest r' s'' | .done r' => Q r' s'') E s') (last : ∀ r s', I [] r s' → Q r s') : wpAny M A (forIn items z f) Q E s := by
  simpa using wpAny_forIn_list f I Q turn last items.toList z i0

/-- whether it is hashed by value: either answer -/
theorem ask_hash {k : MT} {b : Addr} {Q : Bool → Shared → Prop} (x : TAt P w s.heap k b) (q : ∀ y, Q y s) : wpAny (model P w) A (hashByValue 8 (.ref b)) Q E s := by
  have ty := x.typeIs
  obtain ⟨o, items, n, ho, _, hd, hi⟩ := x
  have lv := leaves hi
  unfold hashByValue
  refine wpAny_bind (wpAny_specialOf ty F.slot_tuple_hash.lookup ?_)
  refine items_read (v := .ref b) ⟨o, n, ho, hd⟩ (wpAny_bind (each_item (fun rest _ s' => s' = s ∧ ∀ v ∈ rest, Leaf v) ⟨rfl, lv⟩ (fun v rest r s' ⟨es, all⟩ => ?_) fun r s' ⟨es, _⟩ => ?_))
  · obtain ⟨y, ey⟩ := leaf_hash (all v List.mem_cons_self) 7
    subst es
    rw [ey]
    refine wpAny_bind (wpAny_pure ?_)
    cases y with
    | true => exact wpAny_pure ⟨rfl, fun u hu => all u (List.mem_cons_of_mem _ hu)⟩
    | false => exact wpAny_pure (wpAny_pure (q _))
  · subst es
    obtain ⟨r1, r2⟩ := r
    cases r1 with
    | none => exact wpAny_pure (q _)
    | some z => exact wpAny_pure (q _)

/-- no class statement's object is under it -/
theorem ask_class {k : MT} {b : Addr} {Q : Bool → Shared → Prop} (x : TAt P w s.heap k b) (q : Q false s) : wpAny (model P w) A (ofAClassStatement 8 (.ref b)) Q E s := by
  have ty := x.typeIs
  obtain ⟨o, items, n, ho, _, hd, hi⟩ := x
  have lv := leaves hi
  unfold ofAClassStatement
  refine wpAny_bind (wpAny_typeOf ty ?_)
  have e : (("tuple" : String) == "tuple") = true := by decide
  simp only [e, if_true]
  refine wpAny_bind (wpAny_pure ?_)
  simp only [Bool.not_true, Bool.false_eq_true, if_false]
  refine items_read (v := .ref b) ⟨o, n, ho, hd⟩ (wpAny_bind (each_item (fun rest r s' => r.1 = none ∧ s' = s ∧ ∀ v ∈ rest, Leaf v) ⟨rfl, rfl, lv⟩ (fun v rest r s' ⟨er, es, all⟩ => ?_) fun r s' ⟨er, es, _⟩ => ?_))
  · rw [leaf_class (all v List.mem_cons_self)]
    exact wpAny_bind (wpAny_pure (wpAny_pure ⟨rfl, es, fun u hu => all u (List.mem_cons_of_mem _ hu)⟩))
  · obtain ⟨r1, r2⟩ := r
    dsimp only at er
    subst er es
    exact wpAny_pure q

/-- a search among such tuples is seen by nobody -/
theorem ask_seen {k : MT} {b : Addr} {Q : Bool → Shared → Prop} (x : TAt P w s.heap k b) {ys : List Value} (hy : ∀ y ∈ ys, ∃ k' c, y = .ref c ∧ TAt P w s.heap k' c) (q : Q false s) : wpAny (model P w) A (searchCouldBeSeen (.ref b) ys) Q E s := by
  unfold searchCouldBeSeen
  refine wpAny_bind ?_
  refine wpAny_forIn_list _ (fun rest r s' => r.1 = none ∧ s' = s ∧ ∀ y ∈ rest, ∃ k' c, y = .ref c ∧ TAt P w s.heap k' c) _ (fun v rest r s' ⟨er, es, all⟩ => ?_) (fun r s' ⟨er, es, _⟩ => ?_) _ _ ⟨rfl, rfl, hy⟩
  · obtain ⟨k', c, rfl, xc⟩ := all v List.mem_cons_self
    have left : ∀ y ∈ rest, ∃ k' c, y = Value.ref c ∧ TAt P w s.heap k' c := fun u hu => all u (List.mem_cons_of_mem _ hu)
    subst es
    dsimp only
    rcases Bool.eq_false_or_eq_true (b == c || (carriedByValue (.ref b) && carriedByValue (.ref c))) with y | n
    · exact wp_if_pos y (wpAny_pure ⟨rfl, rfl, left⟩)
    · refine wp_if_neg (by rw [n]; decide) (wpAny_bind (wpAny_eqIsQuiet_tuple x ?_))
      refine wp_if_neg (by decide) (wpAny_bind (wpAny_eqIsQuiet_tuple xc ?_))
      refine wp_if_neg (by decide) (wpAny_bind (ask_class x ?_))
      refine wp_if_neg (by decide) (wpAny_bind (ask_class xc ?_))
      exact wp_if_neg (by decide) (wpAny_pure ⟨rfl, rfl, left⟩)
  · obtain ⟨r1, r2⟩ := r
    dsimp only at er
    subst er es
    exact wpAny_pure q
end
end MX
end
section
/-! A tuple is added to a set of tuples. -/
namespace MX
open PySem PySem.Spec PyProof.Rows L2

abbrev rowT (P : Program) (w : World) (p : Addr × MT) : Int × Value := (mhash P w p.2, .ref p.1)
/-- the set at a has these tuples: where each stands, and what it is -/
structure SetM (P : Program) (w : World) (h : Heap) (a : Addr) (L : List (Addr × MT)) : Prop where
  held : ∃ es ep t, Held w h a es ep t ∧ es.toList.Perm (L.map (rowT P w))
  once : (L.map (·.2)).Nodup
  here : ∀ p ∈ L, TAt P w h p.2 p.1
open Classical in
/-- with one more, if it is new -/
noncomputable def oneMore (L : List (Addr × MT)) (x : Addr) (k : MT) : List (Addr × MT) := if k ∈ L.map (fun p : Addr × MT => p.2) then L else (x, k) :: L

theorem SetM.kept {P : Program} {w : World} {h h' : Heap} {a : Addr} {L : List (Addr × MT)} (R : SetM P w h a L) (k : ∀ b o, h.get? b = some o → h'.get? b = some o) : SetM P w h' a L := by
  obtain ⟨es, ep, t, H, pm⟩ := R.held
  exact ⟨⟨es, ep, t, H.stays (k a), pm⟩, R.once, fun p hp => tat_kept (R.here p hp) k⟩
theorem size_of {P : Program} {w : World} {es : Array (Int × Value)} {L : List (Addr × MT)} (pm : es.toList.Perm (L.map (rowT P w))) : es.size = L.length := by
  have e := pm.length_eq
  rw [List.length_map, Array.length_toList] at e
  exact e

section
variable {P : Program} {w : World} {A : Around} {E : Value → Shared → Prop} {s : Shared}

/-- tuples stay where a set is stored to -/
theorem tat_but {h h' : Heap} {a b : Addr} {k : MT} {o : Obj} {es : Array (Int × Value)} {ep : Nat} {t : SetTable} (x : TAt P w h k b) (ho : h.get? a = some o) (hd : o.data = .set es ep t) (sb : Heap.SameBut a h h') : TAt P w h' k b := by
  obtain ⟨u, items, n, hu, hc, hi, more⟩ := x
  have ne : b ≠ a := fun e => by
    subst e
    rw [ho] at hu
    cases hu
    rw [hd] at hi
    cases hi
  exact ⟨u, items, n, (sb.2 b ne).trans hu, hc, hi, more⟩

theorem add_tup {a x : Addr} {L : List (Addr × MT)} {k : MT} {Q : Bool → Shared → Prop} (R : SetM P w s.heap a L) (hx : TAt P w s.heap k x) (hu : A.units < cLine) (room : L.length + 1 < 64)
    (q : ∀ b h', Heap.SameBut a s.heap h' → SetM P w h' a (oneMore L x k) → Q b { s with heap := h' }) : wpAny (model P w) A (setAddHashed a (.ref x) (mhash P w k)) Q E s := by
  obtain ⟨es, ep, t, H, pm⟩ := R.held
  obtain ⟨o, ho, ex, hd⟩ := H.obj
  have sz := size_of pm
  have rows : ∀ e ∈ es.toList, ∃ p ∈ L, e = rowT P w p := fun e he => by
    obtain ⟨p, hp, z⟩ := List.mem_map.mp (pm.mem_iff.mp he)
    exact ⟨p, hp, z.symm⟩
  have one : ∀ p ∈ L, ∀ p' ∈ L, p.1 = p'.1 → p.2 = p'.2 := fun p hp p' hp' e => by
    have z := R.here p' hp'
    rw [← e] at z
    exact (tupleKind (mixKind P w)).inj (R.here p hp) z
  obtain ⟨K, low, out, ins⟩ := H.tab.first (by rw [len_hashes]; have := H.space; omega) (mhash P w k)
  have small : 10 * SetTable.turns t.mask ≤ 1420 := by
    unfold SetTable.turns
    rcases H.tab.mok with e | e | e <;> omega
  have none_in : (∀ e ∈ es.toList, e.1 = mhash P w k → (decide (∃ p ∈ L, e.2 = Value.ref p.1 ∧ p.2 = k)) = false) → k ∉ L.map (·.2) := fun no hm => by
    obtain ⟨p, hp, e⟩ := List.mem_map.mp hm
    have z := no (rowT P w p) (pm.mem_iff.mpr (List.mem_map_of_mem hp)) (by show mhash P w p.2 = _; rw [e])
    exact of_decide_eq_false z ⟨p, hp, rfl, e⟩
  unfold setAddHashed
  refine wpAny_holding ?_
  rw [show (100000 : Nat) = 99999 + 1 from rfl, setAddHashedIn_succ]
  refine wpAny_bind (wpAny_setState_of ho hd H.fits ?_)
  dsimp only
  refine wp_if_neg (by simp [byScan, Value.scannable]) ?_
  try refine wpAny_bind (wpAny_pure ?_)
  refine wpAny_bind ?_
  unfold setSearch
  refine seek (same := fun v => decide (∃ p ∈ L, v = Value.ref p.1 ∧ p.2 = k)) H (fun e he eh Q' q' => ?_) (fun e he => ?_) (fun ys Q' hy q' => ?_) low out ins (fun e he eh yes => ?_) (fun no => ?_) 100000 0 none rfl (Nat.zero_le _) (by omega) (fun c hc => absurd hc (Nat.not_lt_zero c))
  · obtain ⟨p, hp, rfl⟩ := rows e he
    refine wpAny_eqBool_tuple hu (R.here p hp) hx ?_
    have z : decide (∃ p' ∈ L, (rowT P w p).2 = Value.ref p'.1 ∧ p'.2 = k) = decide (p.2 = k) := by
      apply decide_eq_decide.mpr
      constructor
      · rintro ⟨p', hp', e1, e2⟩
        have e3 : p.1 = p'.1 := by injection e1
        rw [one p hp p' hp' e3]
        exact e2
      · exact fun e => ⟨p, hp, rfl, e⟩
    rw [z] at q'
    exact q'
  · obtain ⟨p, hp, rfl⟩ := rows e he
    exact ⟨p.1, rfl⟩
  · refine ask_seen hx (fun y my => ?_) q'
    obtain ⟨e, he, rfl⟩ := hy y my
    obtain ⟨p, hp, rfl⟩ := rows e he
    exact ⟨p.2, p.1, rfl, R.here p hp⟩
  · obtain ⟨p, hp, e1, e2⟩ := of_decide_eq_true yes
    refine wpAny_pure (q false s.heap (Heap.SameBut.refl a s.heap) ?_)
    unfold oneMore
    rw [if_pos (List.mem_map.mpr ⟨p, hp, e2⟩)]
    exact R
  · have new := none_in no
    obtain ⟨pl, t', e1, T', em, eled, sz', pm', ef⟩ := tab_in H.tab (mhash P w k) (.ref x) out ins
    have ord : w.params.followText "set-order" = true ∨ t'.led = true := H.order.imp id fun z => eled.trans z
    have sp : es.size * 5 < t'.mask * 3 := by rw [em]; exact H.space
    have few' : (SetTable.insertAt es pl (mhash P w k, .ref x)).size < 64 := by rw [sz', sz]; exact room
    have done : ∀ h' es2 ep2 t2, Heap.SameBut a s.heap h' → Held w h' a es2 ep2 t2 → es2.toList.Perm (SetTable.insertAt es pl (mhash P w k, .ref x)).toList → Q true { s with heap := h' } := fun h' es2 ep2 t2 sb H2 p2 => by
      refine q true h' sb ?_
      unfold oneMore
      rw [if_neg new]
      refine ⟨⟨es2, ep2, t2, H2, ?_⟩, ?_, fun p hp => ?_⟩
      · rw [List.map_cons]
        exact (p2.trans pm').trans (pm.cons _)
      · rw [List.map_cons]
        exact List.nodup_cons.mpr ⟨new, R.once⟩
      · rcases List.mem_cons.mp hp with rfl | hp
        · exact tat_but hx ho hd sb
        · exact tat_but (R.here p hp) ho hd sb
    dsimp only
    refine wpAny_bind (wpAny_setState_of ho hd H.fits ?_)
    dsimp only
    rw [e1]
    dsimp only
    have rest : ∀ t2 : SetTable, TabOk t2 (hashes (SetTable.insertAt es pl (mhash P w k, .ref x))) → (w.params.followText "set-order" = true ∨ t2.led = true) → es.size * 5 < t2.mask * 3 →
        wpAny (model P w) A (do
          storeSet a (SetTable.insertAt es pl (mhash P w k, .ref x)) t2
          if (!false && t2.tooFull) = true then do
            setRelay a (SetTable.grown (es.size + 1))
            pure true
          else pure true) Q E s := fun t2 T2 ord2 sp2 => by
      refine wpAny_bind (wpAny_storeSet_of ho hd ?_ (sizes few'))
      have sb1 := Heap.SameBut.update s.heap a (Obj.putSet (SetTable.insertAt es pl (mhash P w k, .ref x)) t2)
      have o1 := Heap.get?_update_self (Obj.putSet (SetTable.insertAt es pl (mhash P w k, .ref x)) t2) ho (by rw [putSet_of _ t2 hd] <;> rfl)
      rw [putSet_of _ t2 hd] at o1
      rcases Bool.eq_false_or_eq_true t2.tooFull with full | nf
      · rw [full]
        refine wp_if_pos rfl (wpAny_bind ?_)
        rw [← sz']
        refine relay_end (n := es.size) o1 ex rfl T2 ord2 sp2 sz' few' full fun h' es2 ep2 t3 sb H2 p2 => ?_
        exact wpAny_pure (done h' es2 ep2 t3 (sb1.trans sb) H2 p2)
      · rw [nf]
        refine wp_if_neg (by decide) (wpAny_pure (done _ _ _ t2 sb1 (put_rows ho ex hd T2 ord2 ?_ few') (List.Perm.refl _)))
        have e := T2.sz
        rw [len_hashes] at e
        have big := nf
        simp only [SetTable.tooFull, SetTable.fill, T2.dm, e, decide_eq_false_iff_not] at big
        simp at big
        omega
    by_cases plain : t'.plain = true
    · refine wp_if_pos plain (wpAny_bind (ask_hash hx fun y => ?_))
      cases y with
      | true => exact rest t' T' ord sp
      | false => exact rest { t' with plain := false } (dull T') ord sp
    · exact wp_if_neg plain (wpAny_bind (wpAny_pure (rest t' T' ord sp)))
end
end MX
end
section
/-! set(xs): the members come one by one. -/
namespace MX
open PySem PySem.Spec PyProof.Rows L2

/-- a set that was just made -/
abbrev newbie (w : World) : Obj := { cls := .type "set", dict := none, data := .set #[] 0 (.fresh 0 0 (!w.params.followText "set-order")) }
theorem held_new {w : World} {h : Heap} {a : Addr} (ho : h.get? a = some (newbie w)) : Held w h a #[] 0 (.fresh 0 0 (!w.params.followText "set-order")) := by
  refine ⟨⟨_, ho, ⟨rfl, rfl, rfl⟩, rfl⟩, ⟨List.Pairwise.nil, rfl, rfl, .inl rfl, fun x hx => ?_, fun i k j hi _ => ?_⟩, ?_, ?_, ?_⟩
  · simp [SetTable.fresh] at hx
  · simp [hashes] at hi
  · cases e : w.params.followText "set-order" with
    | true => exact .inl rfl
    | false => exact .inr rfl
  · show 0 * 5 < 7 * 3
    decide
  · show 0 < 64
    decide

section
variable {P : Program} {w : World} {A : Around} {E : Value → Shared → Prop} {s : Shared}

/-- the loop that fills a set; J tells what is known when so many have come -/
theorem fill {I S : Addr} {fp wr : List Addr} {G : Array GenState → Array GenState → Prop} {n : Nat} {Pv : Nat → Value → Prop} {St : Nat → Shared → Prop} {R : Result → Shared → Prop}
    (W : WalksS P w A.in1 I fp wr G n Pv St) (out : S ∉ fp) (J : Nat → Heap → Prop)
    (calm : ∀ i h h', J i h → (∀ b o, b ∉ wr → h.get? b = some o → h'.get? b = some o) → J i h')
    (put : ∀ i v (s1 : Shared) (E' : Value → Shared → Prop) (Q' : Bool → Shared → Prop), i < n → Pv i v → J i s1.heap →
      (∀ b h' tk, s1.toks ≤ tk → Heap.SameBut S s1.heap h' → J (i + 1) h' → Q' b { s1 with heap := h', toks := tk }) → wpAny (model P w) A.in1 (setAdd S v) Q' E' s1) :
    ∀ (k i : Nat) (s : Shared), k + i = n → St i s → J i s.heap → (∀ s', Moved (S :: wr) G s s' → J n s'.heap → R (.ok (.ret .none)) s') →
      codeAny (model P w) A (.builtin "set.update.loop" ⟨[.ref S, .ref I], []⟩) R s := by
  have wider : ∀ b ∈ wr, b ∈ S :: wr := fun b hb => List.mem_cons_of_mem S hb
  intro k
  induction k with
  | zero =>
    intro i s e st j fin
    obtain rfl : i = n := by omega
    refine codeAny_builtin F.entry_set_update_loop ?_
    rw [Around.under_plainId F.plain_set_update_loop]
    unfold Builtin.«set.update.loop»
    exact wpAny_bind (W.done s _ _ st fun s' m => wpAny_pure (fin s' (m.mono wider) (calm i _ _ j m.heap)))
  | succ k next =>
    intro i s e st j fin
    have lt : i < n := by omega
    refine codeAny_builtin F.entry_set_update_loop ?_
    rw [Around.under_plainId F.plain_set_update_loop]
    unfold Builtin.«set.update.loop»
    refine wpAny_bind (W.item i s _ _ lt st fun v s1 pv st1 m => ?_)
    refine wpAny_bind (wpAny_holding (put i v s1 _ _ lt pv (calm i _ _ j m.heap) fun b h' tk le sb j1 => ?_))
    have st2 : St (i + 1) { s1 with heap := h', toks := tk } := W.frame (i + 1) s1 h' tk st1 le fun c hc o ho => (sb.2 c fun z => out (z ▸ hc)).trans ho
    refine wpAny_pure ⟨plainId_quiet F.plain_set_update_loop _, next (i + 1) _ (by omega) st2 j1 fun s' m' jn => fin s' ?_ jn⟩
    refine Moved.trans W.gtrans ((m.mono wider).then_heap le fun c o hc ho => ?_) m'
    exact (sb.2 c fun z => hc (z ▸ List.mem_cons_self)).trans ho

/-- a call of set with one argument: the new set's own filling -/
theorem set_call {x : Value} {Q : Value → Shared → Prop}
    (body : ∀ A' : Around, (A.handled = none → A'.handled = none) → A'.units ≤ A.units + 3 → wpAny (model P w) A' (Builtin.«set.__init__» ⟨[.ref s.heap.objs.size, x], []⟩)
      (fun r s2 => r = .done (.ret .none) ∧ Q (.ref s.heap.objs.size) s2) E { s with heap := s.heap.push (newbie w) }) :
    wpAny (model P w) A (call (.type "set") [x]) Q E s := by
  have T := F.called_set
  obtain ⟨top, below, e0⟩ := T.mro
  have e1 := T.made
  have e2 := T.sub
  have e3 := T.notType
  have e4 := T.canCreate
  have e5 := F.typeCall_set_1 x
  refine wpAny_call (codeAny_of_tree ?_)
  show wpAny _ _ (callAny (Value.type "set") ⟨[x], []⟩) _ _ _
  refine wpAny_pure (And.intro (Code.quiet_builtin _ (by decide +kernel)) (codeAny_builtin F.entry_type_call ?_))
  rw [Around.under_plain (weight_type_call_type "set" [x] []) rfl]
  repeat (any_goals (first | assumption | wp_step))
  refine codeAny_mono (code_set_led1 x (E := E) (Q₁ := fun v s1 => v = .ref s.heap.objs.size ∧ s1 = { s with heap := s.heap.push (newbie w) }) ⟨rfl, rfl⟩) fun r s1 hr => ?_
  match r, hr with
  | .error _, hr => exact hr
  | .ok (.ret v), hr =>
    obtain ⟨rfl, rfl⟩ := hr
    have here : Shared.TypeIs { s with heap := s.heap.push (newbie w) } (.ref s.heap.objs.size) "set" := ⟨newbie w, Heap.get?_push_size _ rfl, rfl⟩
    have e6 := T.init.lookup
    have e7 := T.init.bind (.ref s.heap.objs.size)
    repeat (any_goals (first | assumption | wp_step))
    refine codeAny_mono (codeAny_call_builtin (R := wants (fun v s2 => v = .none ∧ Q (.ref s.heap.objs.size) s2) E) T.init.plain F.entry_set_init (check_set_init_1 here ?_)) fun r2 s2 hr2 => ?_
    · refine wpAny_mono (body _ (fun h => by simp [h]) ?_) (fun fin s3 ⟨ef, q⟩ => ?_) fun _ _ z => z
      · simp only [Around.in1_units]
        omega
      · subst ef
        exact ⟨rfl, q⟩
    · match r2, hr2 with
      | .error _, hr2 => exact hr2
      | .ok (.ret _), hr2 =>
        obtain ⟨rfl, q⟩ := hr2
        repeat (any_goals (first | assumption | wp_step))

set_option maxHeartbeats 2000000 in
/-- set(xs) of a list or tuple -/
theorem set_seq {l : Addr} {items : Array Value} {Q : Value → Shared → Prop} (hl : s.heap.IsList l items ∨ s.heap.IsTuple l items) (hh : A.handled = none) (J : Nat → Heap → Prop)
    (start : ∀ h', (∀ b o, s.heap.get? b = some o → h'.get? b = some o) → h'.get? s.heap.objs.size = some (newbie w) → J 0 h')
    (calm : ∀ i h h', J i h → (∀ b o, b ≤ s.heap.objs.size → h.get? b = some o → h'.get? b = some o) → J i h')
    (put : ∀ (A' : Around) i v (s1 : Shared) (E' : Value → Shared → Prop) (Q' : Bool → Shared → Prop), A'.units ≤ A.units + 4 → items[i]? = some v → J i s1.heap → (∀ b o, s.heap.get? b = some o → s1.heap.get? b = some o) →
      (∀ b h' tk, s1.toks ≤ tk → Heap.SameBut s.heap.objs.size s1.heap h' → J (i + 1) h' → Q' b { s1 with heap := h', toks := tk }) → wpAny (model P w) A' (setAdd s.heap.objs.size v) Q' E' s1)
    (q : ∀ h' tk, J items.size h' → (∀ b o, s.heap.get? b = some o → h'.get? b = some o) → Q (.ref s.heap.objs.size) { s with heap := h', toks := tk }) :
    wpAny (model P w) A (call (.type "set") [.ref l]) Q E s := by
  refine set_call fun A' hA units => ?_
  have quiet : A'.handled = none := hA hh
  have quiet1 : A'.in1.handled = none := quiet
  have older : ∀ b o, s.heap.get? b = some o → (s.heap.push (newbie w)).get? b = some o := fun b o e => Heap.get?_push_of_some _ e
  have made : (s.heap.push (newbie w)).get? s.heap.objs.size = some (newbie w) := Heap.get?_push_size _ rfl
  have big : (s.heap.push (newbie w)).objs.size = s.heap.objs.size + 1 := Heap.size_push ..
  have none_above : s.heap.get? s.heap.objs.size = none := by
    cases e : s.heap.get? s.heap.objs.size with
    | none => rfl
    | some o => exact absurd (Heap.lt_size e) (Nat.lt_irrefl _)
  have loop : ∀ {I : Addr} {fp : List Addr} {Pv : Nat → Value → Prop} {St : Nat → Heap → Prop} (s2 : Shared), I = s.heap.objs.size + 1 → Walks P w A'.in1 I fp [I] items.size Pv St → s.heap.objs.size ∉ fp → (∀ i v, Pv i v → items[i]? = some v) →
      (∀ b o, s.heap.get? b = some o → s2.heap.get? b = some o) → s2.heap.get? s.heap.objs.size = some (newbie w) → s2.gens = s.gens → s2.drawn = s.drawn → s2.os = s.os → St 0 s2.heap →
      codeAny (model P w) A' (.builtin "set.update.loop" ⟨[.ref s.heap.objs.size, .ref I], []⟩) (fun r s3 => r = .ok (.ret .none) ∧ Q (.ref s.heap.objs.size) s3) s2 := by
    intro I fp Pv St s2 eI W hfp hPv old2 made2 g2 d2 o2 st
    refine fill W.toS hfp (fun i h => J i h ∧ ∀ b o, s.heap.get? b = some o → h.get? b = some o) (fun i h h' ⟨j, old⟩ k => ⟨calm i h h' j fun b o le e => k b o ?_ e, fun b o e => k b o ?_ (old b o e)⟩) ?_ items.size 0 s2 (by omega) st ⟨start _ old2 made2, old2⟩ ?_
    · rw [List.mem_singleton, eI]
      exact Nat.ne_of_lt (Nat.lt_succ_of_le le)
    · rw [List.mem_singleton, eI]
      exact Nat.ne_of_lt (Nat.lt_succ_of_lt (Heap.lt_size e))
    · intro i v s1 E' Q' lt pv ⟨j, old⟩ k
      refine put A'.in1 i v s1 E' Q' (by simp only [Around.in1_units]; omega) (hPv i v pv) j old fun b h' tk le sb j1 => k b h' tk le sb ⟨j1, fun c o e => ?_⟩
      exact (sb.2 c fun z => by rw [z, none_above] at e; cases e).trans (old c o e)
    · intro s' m ⟨j, old⟩
      refine ⟨rfl, ?_⟩
      obtain ⟨h', g', d', tk', os'⟩ := s'
      obtain rfl : g' = s.gens := (Eq.trans m.gens g2)
      obtain rfl : d' = s.drawn := m.drawn.trans d2
      obtain rfl : os' = s.os := m.os.trans o2
      exact q h' tk' j old
  have other : s.heap.objs.size ∉ [(s.heap.push (newbie w)).objs.size, l] ∧ l ≠ (s.heap.push (newbie w)).objs.size := by
    have lt : l < s.heap.objs.size := by
      rcases hl with ⟨o, ho, _⟩ | ⟨o, ho, _⟩ <;> exact Heap.lt_size ho
    rw [big]
    refine ⟨fun z => ?_, fun z => ?_⟩
    · rcases List.mem_cons.mp z with z | z
      · exact absurd z (Nat.ne_of_lt (Nat.lt_succ_self _))
      · exact absurd (List.mem_singleton.mp z) (Nat.ne_of_gt lt)
    · exact absurd z (Nat.ne_of_lt (Nat.lt_succ_of_lt lt))
  rcases hl with hl | hl
  · obtain ⟨⟨c, dict, data, slots⟩, ho, hc, n, hd⟩ := hl
    simp only at hc hd
    subst hc hd
    have ho1 : (s.heap.push (newbie w)).get? l = some { cls := .type "list", dict := dict, data := .seq items n, slots := slots } := older l _ ho
    have hl1 : (s.heap.push (newbie w)).IsList l items := ⟨_, ho1, rfl, n, rfl⟩
    have f1 := F.sub_list_set
    have f2 := F.sub_list_frozenset
    have f3 : (Value.type "list" == Value.type "dict") = false := by decide
    unfold Builtin.«set.__init__» noKeywords Builtin.Frozenset.updateFrom
    generalize hit : pyIter = iter
    wp_walk
    subst hit
    refine wpAny_pyIter_list hl1 (wpAny_bind (wpAny_runValue ?_))
    refine codeAny_mono (loop _ big (Walks.list quiet1 _ l other.2 items) other.1 (fun i v e => e) (fun b o e => Heap.get?_push_of_some _ (older b o e)) (Heap.get?_push_of_some _ made) rfl rfl rfl ⟨⟨_, Heap.get?_push_size _ rfl, rfl, rfl⟩, hl1.push _⟩) fun r s3 ⟨er, q3⟩ => ?_
    subst er
    exact wpAny_pure (wpAny_pure ⟨rfl, q3⟩)
  · obtain ⟨⟨c, dict, data, slots⟩, ho, hc, n, hd⟩ := hl
    simp only at hc hd
    subst hc hd
    have ho1 : (s.heap.push (newbie w)).get? l = some { cls := .type "tuple", dict := dict, data := .seq items n, slots := slots } := older l _ ho
    have hl1 : (s.heap.push (newbie w)).IsTuple l items := ⟨_, ho1, rfl, n, rfl⟩
    have f1 := F.sub_tuple_set
    have f2 := F.sub_tuple_frozenset
    have f3 : (Value.type "tuple" == Value.type "dict") = false := by decide
    unfold Builtin.«set.__init__» noKeywords Builtin.Frozenset.updateFrom
    generalize hit : pyIter = iter
    wp_walk
    subst hit
    refine wpAny_pyIter_tuple hl1 (wpAny_bind (wpAny_runValue ?_))
    refine codeAny_mono (loop _ big (Walks.tuple quiet1 _ l other.2 items) other.1 (fun i v e => e) (fun b o e => Heap.get?_push_of_some _ (older b o e)) (Heap.get?_push_of_some _ made) rfl rfl rfl ⟨⟨_, Heap.get?_push_size _ rfl, rfl, rfl⟩, hl1.push _⟩) fun r s3 ⟨er, q3⟩ => ?_
    subst er
    exact wpAny_pure (wpAny_pure ⟨rfl, q3⟩)
end
end MX
end
section
/-! The orders of keys and of tuples of keys; lists that rise. -/
namespace MX
open PySem PySem.Spec PyProof.Rows L2 PySem.W

def ofKey : Key → PyData
  | .inl i => .int i
  | .inr x => .str x
def ofTup (k : MT) : PyData := .tuple (k.map ofKey)
def tks (k : MT) : List (Int ⊕ List Nat) := keyToks (ofTup k)
/-- the order of numbers, and of words -/
def kl (a b : Key) : Bool := dataLt (ofKey a) (ofKey b)
/-- the order of tuples -/
def klt (a b : MT) : Bool := lexLt itemOrd (tks a) (tks b)
abbrev Up (l : List Key) : Prop := l.Pairwise fun a b => kl a b = true
abbrev Rise (l : List MT) : Prop := l.Pairwise fun a b => klt a b = true

theorem depth_ofKey : ∀ l : MT, PyData.depthAll (l.map ofKey) = 0
  | [] => rfl
  | k :: l => by
    rw [List.map_cons, PyData.depthAll, depth_ofKey l]
    cases k <;> rfl
theorem kl_irrefl (a : Key) : kl a a = false := lex_irrefl (O := itemOrd) _
theorem klt_irrefl (a : MT) : klt a a = false := lex_irrefl (O := itemOrd) _
theorem kl_int (a b : Int) : kl (.inl a) (.inl b) = decide (a < b) := dataLt_int a b

/-- two lists that rise by an order and have the same members are one -/
theorem same_rising {α : Type} {lt : α → α → Bool} (irr : ∀ a, lt a a = false) (tr : ∀ a b c, lt a b = true → lt b c = true → lt a c = true) :
    ∀ {l m : List α}, l.Pairwise (fun a b => lt a b = true) → m.Pairwise (fun a b => lt a b = true) → (∀ x, x ∈ l ↔ x ∈ m) → l = m
  | [], [], _, _, _ => rfl
  | [], y :: m, _, _, h => absurd ((h y).mpr List.mem_cons_self) (by simp)
  | x :: l, [], _, _, h => absurd ((h x).mp List.mem_cons_self) (by simp)
  | x :: l, y :: m, p, q, h => by
    obtain ⟨p1, p2⟩ := List.pairwise_cons.mp p
    obtain ⟨q1, q2⟩ := List.pairwise_cons.mp q
    have never : ∀ {a b}, lt a b = true → lt b a = true → False := fun {a b} u v => by
      have z := tr a b a u v
      rw [irr] at z
      cases z
    have e : x = y := by
      rcases List.mem_cons.mp ((h x).mp List.mem_cons_self) with e | hx
      · exact e
      · rcases List.mem_cons.mp ((h y).mpr List.mem_cons_self) with e | hy
        · exact e.symm
        · exact absurd (p1 y hy) fun u => never u (q1 x hx)
    subst e
    have out1 : x ∉ l := fun z => by
      have u := p1 x z
      rw [irr] at u
      cases u
    have out2 : x ∉ m := fun z => by
      have u := q1 x z
      rw [irr] at u
      cases u
    rw [same_rising irr tr p2 q2 fun z => ?_]
    constructor
    · intro hz
      rcases List.mem_cons.mp ((h z).mp (List.mem_cons_of_mem _ hz)) with e | k
      · exact absurd (e ▸ hz) out1
      · exact k
    · intro hz
      rcases List.mem_cons.mp ((h z).mpr (List.mem_cons_of_mem _ hz)) with e | k
      · exact absurd (e ▸ hz) out2
      · exact k
theorem up_one {l m : List Key} (hl : Up l) (hm : Up m) (h : ∀ k, k ∈ l ↔ k ∈ m) : l = m := same_rising kl_irrefl (fun a b c u v => lex_trans (O := itemOrd) _ _ _ u v) hl hm h
theorem rise_one {l m : List MT} (hl : Rise l) (hm : Rise m) (h : ∀ k, k ∈ l ↔ k ∈ m) : l = m := same_rising klt_irrefl (fun a b c u v => lex_trans (O := itemOrd) _ _ _ u v) hl hm h

/-- what is not less either way, and can be compared, is the same -/
theorem key_same {a b : Key} (al : alike (ofKey a) (ofKey b) = true) (h1 : kl a b = false) (h2 : kl b a = false) : a = b := by
  cases a with
  | inl i =>
    cases b with
    | inl j =>
      rw [kl_int] at h1 h2
      have := of_decide_eq_false h1
      have := of_decide_eq_false h2
      rw [show i = j by omega]
    | inr y => exact absurd al (by simp [ofKey, alike])
  | inr x =>
    cases b with
    | inl j => exact absurd al (by simp [ofKey, alike])
    | inr y =>
      have e1 : decide (x.cps.toList < y.cps.toList) = false := (dataLt_str x y).symm.trans h1
      have e2 : decide (y.cps.toList < x.cps.toList) = false := (dataLt_str y x).symm.trans h2
      have e3 := List.le_antisymm (List.not_lt.mp (of_decide_eq_false e2)) (List.not_lt.mp (of_decide_eq_false e1))
      obtain ⟨xs⟩ := x
      obtain ⟨ys⟩ := y
      rw [show xs = ys from Array.toList_inj.mp e3]
theorem alike_eqv {a b : Key} (al : alike (ofKey a) (ofKey b) = true) : PyData.eqv (ofKey a) (ofKey b) = decide (a = b) := by
  cases a with
  | inl i =>
    cases b with
    | inl j => rw [key_ll]; rfl
    | inr y => exact absurd al (by simp [ofKey, alike])
  | inr x =>
    cases b with
    | inl j => exact absurd al (by simp [ofKey, alike])
    | inr y =>
      rw [key_rr]
      show (x == y) = decide (x = y)
      rcases Classical.em (x = y) with c | c
      · subst c; simp
      · rw [decide_eq_false c]; exact beq_eq_false_iff_ne.mpr c
theorem rows_same : ∀ {a b : MT}, a.length = b.length → alikeAll (a.map ofKey) (b.map ofKey) = true → lexLt itemOrd (keyToksAll (a.map ofKey)) (keyToksAll (b.map ofKey)) = false →
    lexLt itemOrd (keyToksAll (b.map ofKey)) (keyToksAll (a.map ofKey)) = false → a = b
  | [], [], _, _, _, _ => rfl
  | [], _ :: _, e, _, _, _ => by cases e
  | _ :: _, [], e, _, _, _ => by cases e
  | x :: a, y :: b, e, al, h1, h2 => by
    rw [List.map_cons, List.map_cons, alikeAll, Bool.and_eq_true] at al
    obtain ⟨al1, al2⟩ := al
    have al1' : alike (ofKey y) (ofKey x) = true := by cases x <;> cases y <;> simp_all [ofKey, alike]
    rw [List.map_cons, List.map_cons, dataLt_cons al1] at h1
    rw [List.map_cons, List.map_cons, dataLt_cons al1'] at h2
    rw [alike_eqv al1] at h1
    rw [alike_eqv al1'] at h2
    rcases Classical.em (x = y) with c | c
    · subst c
      rw [if_pos (decide_eq_true rfl)] at h1 h2
      rw [rows_same (by simpa using e) al2 h1 h2]
    · rw [if_neg (by simp [c])] at h1
      rw [if_neg (by simp [Ne.symm c])] at h2
      exact absurd (key_same al1 h1 h2) c
end MX
end
section
/-! sorted of a set. -/
namespace MX
open PySem PySem.Spec PyProof.Rows L2 PySem.W

theorem each_perm {β : Type} {R : Value → β → Prop} {us vs : List Value} (p : us.Perm vs) : ∀ {bs : List β}, EachIs R vs bs → ∃ bs', EachIs R us bs' ∧ bs'.Perm bs := by
  induction p with
  | nil => intro bs e; exact ⟨bs, e, List.Perm.refl _⟩
  | cons x _ ih =>
    intro bs e
    cases e with
    | cons r t =>
      obtain ⟨cs, e1, p1⟩ := ih t
      exact ⟨_, .cons r e1, p1.cons _⟩
  | swap x y l =>
    intro bs e
    cases e with
    | cons r1 t =>
      cases t with
      | cons r2 t => exact ⟨_, .cons r2 (.cons r1 t), List.Perm.swap ..⟩
  | trans _ _ ih1 ih2 =>
    intro bs e
    obtain ⟨cs, e1, p1⟩ := ih2 e
    obtain ⟨ds, e2, p2⟩ := ih1 e1
    exact ⟨ds, e2, p2.trans p1⟩

section
variable {P : Program} {w : World} {A : Around} {E : Value → Shared → Prop} {s : Shared} {a : Addr} {es : Array (Int × Value)} {ep : Nat} {t : SetTable}

theorem sort_held {β : Type} {enc : β → PyData} {R : Value → β → Prop} {bs : List β} {Q : Value → Shared → Prop} (at_ : SetAt s.heap a es ep t) (fits : t.fits es.size = true) (low : es.size < scanBound) (ris : Ris t.place.toList) (ord : w.params.followText "set-order" = true ∨ t.led = true) (hh : A.handled = none) (each : EachIs R (es.toList.map (·.2)) bs)
    (reads : ∀ v b (h' : Heap), (∀ c o, s.heap.get? c = some o → h'.get? c = some o) → R v b → Reads h' v (enc b) []) (al : ∀ b ∈ bs, ∀ b' ∈ bs, alike (enc b) (enc b') = true) (hk : ∀ ds : List β, ds.Perm bs → Sortable (ds.map enc))
    (hu : ∀ b ∈ bs, A.units + 3 + (enc b).depth < cLine)
    (q : ∀ s' p (out : Array Value) (c : Nat) (ds : List β), (∀ b o, s.heap.get? b = some o → s'.heap.get? b = some o) → s'.gens = s.gens → s'.os = s.os → s.heap.objs.size ≤ p → s'.heap.get? p = some (seqObj "list" out c) →
      EachIs R out.toList ds → ds.Perm bs → ds.Pairwise (fun b b' => dataLt (enc b') (enc b) = false) → Q (.ref p) s') :
    wpAny (model P w) A (call (.builtin "sorted") [.ref a]) Q E s := by
  refine Calls.call_function_entry kind_sorted plain_sorted entry_sorted (args_sorted1 (.ref a)) ?_
  unfold Builtin.«sorted»
  refine wpAny_bind (m := checkCount "sorted" 1 1 1) (wpAny_pure ?_)
  refine wpAny_bind (collect_set (A := A.in1) hh at_ fits low ris ord fun s1 vs old1 big1 g1 o1 pm => ?_)
  obtain ⟨cs, ecs, pcs⟩ := each_perm pm each
  have few : vs.length ≤ sizeLine := by
    rw [pm.length_eq, List.length_map, Array.length_toList]
    exact fits_of_scanBound low
  have fewc : cs.length ≤ sizeLine := by rw [← ecs.length]; exact few
  refine wpAny_bind (wpAny_newList ?_ few)
  have made : (s1.heap.push (seqObj "list" vs.toArray 0)).get? s1.heap.objs.size = some (seqObj "list" vs.toArray 0) := Heap.get?_push_size _ rfl
  have old2 : ∀ c u, s.heap.get? c = some u → (s1.heap.push (seqObj "list" vs.toArray 0)).get? c = some u := fun c u e => Heap.get?_push_of_some _ (old1 c u e)
  have readable : EachIs (fun v b => ∃ as, Reads (s1.heap.push (seqObj "list" vs.toArray 0)) v (enc b) as ∧ s1.heap.objs.size ∉ as) vs cs := ecs.mono fun v b r => ⟨[], reads v b _ old2 r, by simp⟩
  refine wpAny_bind (wpAny_holding ?_)
  refine list_sort_data (s := { s1 with heap := s1.heap.push (seqObj "list" vs.toArray 0) }) (A := A.in1) made ecs readable ?_ (hk cs pcs) fewc (fun b hb => ?_) fun out len eout => ?_
  · intro d hd d' hd'
    obtain ⟨b, hb, rfl⟩ := List.mem_map.mp hd
    obtain ⟨b', hb', rfl⟩ := List.mem_map.mp hd'
    exact al b (pcs.mem_iff.mp hb) b' (pcs.mem_iff.mp hb')
  · have := hu b (pcs.mem_iff.mp hb)
    simp only [Around.in1_units]
    omega
  · obtain ⟨c, hc⟩ := sortedHeap_at (vs := vs) (out := List.toArray out) made
    refine wpAny_pure ⟨_, rfl, q _ s1.heap.objs.size (List.toArray out) c (cs.mergeSort (dataLe false enc)) (fun b u e => ?_) g1 o1 big1 hc eout ((List.mergeSort_perm _ _).trans pcs) ?_⟩
    · have e1 := old1 b u e
      have lt := Heap.lt_size e1
      show (sortedHeap (s1.heap.push (seqObj "list" vs.toArray 0)) s1.heap.objs.size vs (List.toArray out)).get? b = some u
      rw [sortedHeap_old (Nat.ne_of_lt lt) (by rw [size_push']; exact Nat.lt_succ_of_lt lt)]
      exact Heap.get?_push_of_some _ e1
    · have z := sort_pairwise (le := dataLe false enc) (sortLe_total (listOrd itemOrd) false fun b => keyToks (enc b)) cs
      refine z.imp fun {b b'} e => ?_
      have e' : (!dataLt (enc b') (enc b)) = true := e
      simpa using e'
end
end MX
end
section
/-! set(..) and sorted(..) read: tuples of numbers and words. -/
namespace MX
open PySem PySem.Spec PyProof.Rows L2 PySem.W

/-- the set at a, but for what stands elsewhere -/
structure SetM0 (P : Program) (w : World) (h : Heap) (a : Addr) (L : List (Addr × MT)) : Prop where
  held : ∃ es ep t, Held w h a es ep t ∧ es.toList.Perm (L.map (rowT P w))
  once : (L.map (·.2)).Nodup
def SetMO (P : Program) (w : World) (a : Addr) (L : List (Addr × MT)) : HO := .ext fun h => SetM0 P w h a L
theorem ok_setMO {P : Program} {w : World} {H : Hp} {h : Heap} {a : Addr} {L : List (Addr × MT)} (R : SetM0 P w h a L) : ObjOk P w H h a (SetMO P w a L) := by
  obtain ⟨⟨es, ep, t, K, pm⟩, nd⟩ := R
  refine ⟨⟨⟨es, ep, t, K, pm⟩, nd⟩, ?_, fun h1 h2 p k => ?_⟩
  · obtain ⟨o, ho, _⟩ := K.obj
    exact ⟨o, ho⟩
  · obtain ⟨⟨es, ep, t, K, pm⟩, nd⟩ := p
    exact ⟨⟨es, ep, t, K.stays k, pm⟩, nd⟩

/-- a tuple's items as the model has them -/
theorem items_are {P : Program} {w : World} : ∀ {k : MT} {us : List Value}, Vals (k.map kV) us → ItemsAre (mixKind P w) k us
  | [], _, .nil => .nil
  | _ :: _, _, .cons r t => .cons (kV_is r) (items_are t)
theorem refs_are : ∀ {ks : List (Addr × MT)} {us : List Value}, Vals (ks.map fun p => V.ref p.1) us → us = ks.map fun p => Value.ref p.1
  | [], _, .nil => rfl
  | p :: ks, _, .cons r t => by
    cases r
    rw [refs_are t] <;> rfl
theorem vals_refs : ∀ {ks : List (Addr × MT)} {us : List Value}, EachIs (fun v (p : Addr × MT) => v = .ref p.1) us ks → Vals (ks.map fun p => V.ref p.1) us
  | [], _, .nil => .nil
  | p :: ks, _, .cons e t => by
    subst e
    exact .cons rfl (vals_refs t)
theorem each_refs : ∀ ks : List (Addr × MT), EachIs (fun v (p : Addr × MT) => v = .ref p.1) (ks.map fun p => Value.ref p.1) ks
  | [] => .nil
  | _ :: ks => .cons rfl (each_refs ks)
theorem reads_items {P : Program} {w : World} {h : Heap} {k : MT} {us : List Value} (x : ItemsAre (mixKind P w) k us) : ReadsAll h us (k.map ofKey) [] := by
  induction x with
  | nil => exact .nil
  | @cons k0 v ks vs h1 _ ih =>
    rcases keyIs_shape h1 with ⟨i, t, rfl, rfl⟩ | ⟨y, t, rfl, rfl⟩
    · exact .cons (as := []) (.int i t) ih
    · exact .cons (as := []) (.str y t) ih
theorem reads_tup {P : Program} {w : World} {h : Heap} {k : MT} {b : Addr} (x : TAt P w h k b) : Reads h (.ref b) (ofTup k) [] := by
  obtain ⟨o, items, n, ho, hc, hd, hi⟩ := x
  exact .tuple ho hc hd (reads_items hi)

/-- which items are numbers -/
def shape (k : MT) : List Bool := k.map fun x => match x with | .inl _ => true | .inr _ => false
theorem alike_shape : ∀ {a b : MT}, shape a = shape b → alikeAll (a.map ofKey) (b.map ofKey) = true
  | [], [], _ => by simp [alikeAll]
  | [], _ :: _, e => by cases e
  | _ :: _, [], e => by cases e
  | x :: a, y :: b, e => by
    unfold shape at e
    rw [List.map_cons, List.map_cons] at e
    obtain ⟨e1, e2⟩ := List.cons.inj e
    rw [List.map_cons, List.map_cons, alikeAll, alike_shape (a := a) (b := b) e2]
    cases x with
    | inl i =>
      cases y with
      | inl j => rfl
      | inr t => cases e1
    | inr t =>
      cases y with
      | inl j => cases e1
      | inr u => rfl
theorem len_shape {a b : MT} (e : shape a = shape b) : a.length = b.length := by
  have z := congrArg List.length e
  unfold shape at z
  rw [List.length_map, List.length_map] at z
  exact z
theorem rise_of {L : List (Addr × MT)} {sh : List Bool} (all : ∀ p ∈ L, shape p.2 = sh) (nd : (L.map (·.2)).Nodup) (pw : L.Pairwise fun p q => dataLt (ofTup q.2) (ofTup p.2) = false) : Rise (L.map (·.2)) := by
  refine List.pairwise_map.mpr ?_
  have nd' : L.Pairwise fun p q => p.2 ≠ q.2 := List.pairwise_map.mp nd
  refine (List.Pairwise.and nd' pw).imp_of_mem fun {p q} hp hq ⟨ne, le⟩ => ?_
  cases e : klt p.2 q.2 with
  | true => rfl
  | false =>
    have s : shape p.2 = shape q.2 := (all p hp).trans (all q hq).symm
    have u : lexLt itemOrd (keyToksAll (p.2.map ofKey)) (keyToksAll (q.2.map ofKey)) = false := (dataLt_tuple _ _).symm.trans e
    have v : lexLt itemOrd (keyToksAll (q.2.map ofKey)) (keyToksAll (p.2.map ofKey)) = false := (dataLt_tuple _ _).symm.trans le
    exact absurd (rows_same (len_shape s) (alike_shape s) u v) ne

def rSetM (K : PySem.W.Frag) (P : Program) (w : World) : List V → Hp → VK → Prop := fun xs H Q => ∃ (a : Addr) (ks : List (Addr × MT)), xs = [V.ref a] ∧
  (SqL K H a (ks.map fun p => V.ref p.1) ∨ SqT K H a (ks.map fun p => V.ref p.1)) ∧ (∀ p ∈ ks, SqT K H p.1 (p.2.map kV)) ∧ ks.length < 64 ∧
  ∀ (S : Addr) (L : List (Addr × MT)), H S = none → (∀ p ∈ L, p ∈ ks) → (∀ p ∈ ks, p.2 ∈ L.map (·.2)) → Q (.ref S) (upd H S (SetMO P w S L))
def rSortedM (K : PySem.W.Frag) (P : Program) (w : World) : List V → Hp → VK → Prop := fun xs H Q => ∃ (a : Addr) (L : List (Addr × MT)) (sh : List Bool), xs = [V.ref a] ∧ H a = some (SetMO P w a L) ∧
  (∀ p ∈ L, SqT K H p.1 (p.2.map kV)) ∧ sh ≠ [] ∧ (∀ p ∈ L, shape p.2 = sh) ∧
  ∀ (M : List (Addr × MT)) (q : Addr), M.Perm L → Rise (M.map (·.2)) → H q = none → Q (.ref q) (upd H q (.lst (M.map fun p => V.ref p.1)))

section
variable {X : Cx} {pins : List (Addr × Obj)} {σ : L2.St} {H : Hp} {s : Shared}
theorem tat_of (I : Inv X pins σ H s) {b : Addr} {k : MT} (h : SqT X.K H b (k.map kV)) : TAt X.prog X.w s.heap k b := by
  obtain ⟨its, r, ⟨o, ho, hc, n, hd⟩, _⟩ := I.tuple h
  exact ⟨o, its.toArray, n, ho, hc, hd, by simpa using items_are r⟩

/-- what has come of the first i tuples -/
structure Come (ks : List (Addr × MT)) (i : Nat) (L : List (Addr × MT)) : Prop where
  inn : ∀ p ∈ L, p ∈ ks
  all : ∀ p ∈ ks.take i, p.2 ∈ L.map (·.2)
  low : L.length ≤ i
theorem Come.next {ks L : List (Addr × MT)} {i : Nat} {p : Addr × MT} (c : Come ks i L) (e : ks[i]? = some p) : Come ks (i + 1) (oneMore L p.1 p.2) := by
  have tk : ks.take (i + 1) = ks.take i ++ [p] := by rw [List.take_add_one, e] <;> rfl
  unfold oneMore
  split
  · rename_i old
    refine ⟨c.inn, fun q hq => ?_, Nat.le_succ_of_le c.low⟩
    rw [tk] at hq
    rcases List.mem_append.mp hq with h | h
    · exact c.all q h
    · rw [List.mem_singleton.mp h]; exact old
  · refine ⟨fun q hq => ?_, fun q hq => ?_, Nat.succ_le_succ c.low⟩
    · rcases List.mem_cons.mp hq with rfl | h
      · exact List.mem_of_getElem? e
      · exact c.inn q h
    · rw [tk] at hq
      rw [List.map_cons]
      rcases List.mem_append.mp hq with h | h
      · exact List.mem_cons_of_mem _ (c.all q h)
      · rw [List.mem_singleton.mp h]; exact List.mem_cons_self

theorem cr_setM (hc : X.calm = true) (hu : X.A.units + 64 < cLine) : CallR X (.type "set") (rSetM X.K X.prog X.w) := by
  intro pins s σ H xs us Q I r h
  obtain ⟨a, ks, rfl, ha, hk, few, q⟩ := h
  rw [Vals.ref1 r]
  have seq : ∃ items : Array Value, (s.heap.IsList a items ∨ s.heap.IsTuple a items) ∧ items.toList = ks.map fun p => Value.ref p.1 := by
    rcases ha with ha | ha
    · obtain ⟨its, rv, pl, _⟩ := I.list ha
      exact ⟨its.toArray, .inl pl.isList, by simpa using refs_are rv⟩
    · obtain ⟨its, rv, ht, _⟩ := I.tuple ha
      exact ⟨its.toArray, .inr ht, by simpa using refs_are rv⟩
  obtain ⟨items, at_, its⟩ := seq
  have size : items.size = ks.length := by
    have e := congrArg List.length its
    rw [List.length_map, Array.length_toList] at e
    exact e
  have tup : ∀ p ∈ ks, TAt X.prog X.w s.heap p.2 p.1 := fun p hp => tat_of I (hk p hp)
  have free : H s.heap.objs.size = none := I.hok.fresh (Nat.le_refl _)
  refine set_seq at_ (I.ok.hd hc) (fun i h' => (∀ b o, s.heap.get? b = some o → h'.get? b = some o) ∧ ∃ L, SetM X.prog X.w h' s.heap.objs.size L ∧ Come ks i L) ?_ ?_ ?_ ?_
  · intro h' old made
    exact ⟨old, [], ⟨⟨_, _, _, held_new made, List.Perm.nil⟩, List.nodup_nil, fun p hp => absurd hp (by simp)⟩, ⟨fun p hp => absurd hp (by simp), fun p hp => absurd hp (by simp), Nat.le_refl 0⟩⟩
  · rintro i h1 h2 ⟨old, L, R, c⟩ k
    have old2 : ∀ b o, s.heap.get? b = some o → h2.get? b = some o := fun b o e => k b o (Nat.le_of_lt (Heap.lt_size e)) (old b o e)
    obtain ⟨es, ep, t, Hd, pm⟩ := R.held
    exact ⟨old2, L, ⟨⟨es, ep, t, Hd.stays fun o e => k _ o (Nat.le_refl _) e, pm⟩, R.once, fun p hp => tat_kept (tup p (c.inn p hp)) old2⟩, c⟩
  · rintro A' i v s1 E' Q' le ev ⟨old, L, R, c⟩ _ k
    have e1 : (ks.map fun p => Value.ref p.1)[i]? = some v := by rw [← its, Array.getElem?_toList]; exact ev
    rw [List.getElem?_map] at e1
    obtain ⟨p, hp, rfl⟩ := Option.map_eq_some_iff.mp e1
    have lt : i < ks.length := (List.getElem?_eq_some_iff.mp hp).1
    have hx : TAt X.prog X.w s1.heap p.2 p.1 := tat_kept (tup p (List.mem_of_getElem? hp)) old
    have room : A'.units < cLine := by omega
    unfold setAdd
    refine wpAny_holding (wpAny_bind (wpAny_pyHash_tuple room hx ?_))
    refine add_tup (s := { s1 with toks := s1.toks + (p.2.length + 1) }) R hx room (by have := c.low; omega) fun b h' sb R' => ?_
    refine k b h' _ (Nat.le_add_right _ _) sb ⟨fun c o e => ?_, _, R', c.next hp⟩
    have ne : c ≠ s.heap.objs.size := Nat.ne_of_lt (Heap.lt_size e)
    exact (sb.2 c ne).trans (old c o e)
  · rintro h' tk ⟨_, L, R, c⟩ old
    refine ⟨.ref _, upd H s.heap.objs.size (SetMO X.prog X.w s.heap.objs.size L), I.laid (t' := tk) old (Nat.le_refl _) (ok_setMO ⟨R.held, R.once⟩), rfl, q _ L free c.inn fun p hp => c.all p ?_⟩
    rw [size, List.take_length]
    exact hp

theorem cr_sortedM (hc : X.calm = true) (hu : X.A.units + 64 < cLine) : CallR X (.builtin "sorted") (rSortedM X.K X.prog X.w) := by
  intro pins s σ H xs us Q I r h
  obtain ⟨a, L, sh, rfl, ha, hk, hsh, all, q⟩ := h
  obtain ⟨⟨es, ep, t, Hd, pm⟩, nd⟩ : SetM0 X.prog X.w s.heap a L := (I.hok a _ ha).1
  rw [Vals.ref1 r]
  have at_ : SetAt s.heap a es ep t := by
    obtain ⟨o, ho, ex, hd⟩ := Hd.obj
    exact ⟨o, ho, ex.1, hd⟩
  have tup : ∀ p ∈ L, TAt X.prog X.w s.heap p.2 p.1 := fun p hp => tat_of I (hk p hp)
  have vals : (es.toList.map (·.2)).Perm (L.map fun p => Value.ref p.1) := by
    have z := pm.map (·.2)
    rw [List.map_map] at z
    exact z
  obtain ⟨L', each, pL⟩ := each_perm vals (each_refs L)
  have each2 : EachIs (fun v (p : Addr × MT) => v = .ref p.1 ∧ p ∈ L) (es.toList.map (·.2)) L' := (each_mem each).mono fun v p ⟨e, m⟩ => ⟨e, pL.mem_iff.mp m⟩
  refine sort_held (enc := fun p : Addr × MT => ofTup p.2) (R := fun v (p : Addr × MT) => v = .ref p.1 ∧ p ∈ L) (bs := L') at_ Hd.fits (Nat.lt_trans Hd.few (by decide)) Hd.tab.ris Hd.order (I.ok.hd hc) each2 ?_ ?_ ?_ ?_ ?_
  · rintro v p h' old ⟨rfl, hp⟩
    exact reads_tup (tat_kept (tup p hp) old)
  · intro p hp p' hp'
    have e : shape p.2 = shape p'.2 := (all p (pL.mem_iff.mp hp)).trans (all p' (pL.mem_iff.mp hp')).symm
    show alikeAll _ _ = true
    exact alike_shape e
  · intro ds pd
    refine .inl fun d hd => ?_
    obtain ⟨p, hp, rfl⟩ := List.mem_map.mp hd
    have e := all p (pL.mem_iff.mp (pd.mem_iff.mp hp))
    cases hkk : p.2 with
    | nil => rw [hkk] at e; exact absurd e.symm hsh
    | cons x k => exact ⟨ofKey x, k.map ofKey, rfl⟩
  · intro p hp
    have e : (ofTup p.2).depth = 1 := by
      unfold ofTup
      rw [PyData.depth, depth_ofKey]
    rw [e]
    omega
  · intro s' p out c M old g o big made eM pM pw
    have free : H p = none := I.hok.fresh big
    have pML : M.Perm L := pM.trans pL
    have lenM : (M.map fun p => V.ref p.1).length ≤ sizeLine := by
      rw [List.length_map, pML.length_eq, ← size_of pm]
      exact sizes Hd.few
    have vM : Vals (M.map fun p => V.ref p.1) out.toList := vals_refs (eM.mono fun v p e => e.1)
    have J : Inv X pins σ (upd H p (.lst (M.map fun p => V.ref p.1))) s' := I.call' (ch := []) o (Un.laid old big free) (I.hok.laid old big ⟨lenM, out.toList, c, vM, by simpa [seqObj] using made⟩) (by rw [g]; exact I.bare) (fun _ z => nomatch z)
    exact ⟨.ref p, _, J, rfl, q M p pML (rise_of (fun p hp => all p (pML.mem_iff.mp hp)) ((pML.map (·.2)).nodup_iff.mpr nd) pw) free⟩
end
end MX
end
section
/-! Sets of numbers and words, up to the bound of scans. -/
namespace MX
open PySem PySem.Spec PyProof.Rows L2 PySem.W

/-- a set that is gone through by scans, and walked in some order -/
structure Scan (w : World) (h : Heap) (a : Addr) (es : Array (Int × Value)) (ep : Nat) (t : SetTable) : Prop where
  obj : ∃ o, h.get? a = some o ∧ o.ExactSet ∧ o.data = .set es ep t
  fits : t.fits es.size = true
  ris : Ris t.place.toList
  order : w.params.followText "set-order" = true ∨ t.led = true
  low : es.size < scanBound
theorem Scan.stays {w : World} {h h' : Heap} {a : Addr} {es : Array (Int × Value)} {ep : Nat} {t : SetTable} (R : Scan w h a es ep t) (k : ∀ o, h.get? a = some o → h'.get? a = some o) : Scan w h' a es ep t := by
  obtain ⟨o, ho, more⟩ := R.obj
  exact { R with obj := ⟨o, k o ho, more⟩ }
/-- a number's or word's key -/
def keyAt : Value → Key
  | .int i _ => .inl i
  | .str x _ => .inr x
  | _ => .inl 0
theorem keyAt_of {k : Key} {v : Value} (h : keyIs k v = true) : keyAt v = k := by
  rcases keyIs_shape h with ⟨i, t, rfl, rfl⟩ | ⟨x, t, rfl, rfl⟩ <;> rfl
theorem scan_leaf {k : Key} {v : Value} (h : keyIs k v = true) : v.scannable = true := by
  rcases keyIs_shape h with ⟨i, t, rfl, rfl⟩ | ⟨x, t, rfl, rfl⟩ <;> rfl
abbrev keysIn (es : Array (Int × Value)) : List Key := es.toList.map fun e => keyAt e.2

/-- at a stands a set of so many keys -/
structure SetQ (P : Program) (w : World) (h : Heap) (a : Addr) (S : Key → Bool) (n : Nat) : Prop where
  scan : ∃ es ep t, Scan w h a es ep t ∧ ElemsOf (mixKind P w) es.toList ∧ (keysIn es).Nodup ∧ (∀ k, S k = true ↔ k ∈ keysIn es) ∧ es.size = n
theorem SetQ.stays {P : Program} {w : World} {h h' : Heap} {a : Addr} {S : Key → Bool} {n : Nat} (R : SetQ P w h a S n) (k : ∀ o, h.get? a = some o → h'.get? a = some o) : SetQ P w h' a S n := by
  obtain ⟨es, ep, t, R, more⟩ := R.scan
  exact ⟨es, ep, t, R.stays k, more⟩
theorem SetQ.some_obj {P : Program} {w : World} {h : Heap} {a : Addr} {S : Key → Bool} {n : Nat} (R : SetQ P w h a S n) : ∃ o, h.get? a = some o := by
  obtain ⟨es, ep, t, R, _⟩ := R.scan
  obtain ⟨o, ho, _⟩ := R.obj
  exact ⟨o, ho⟩
theorem here_key {P : Program} {w : World} {es : Array (Int × Value)} (el : ElemsOf (mixKind P w) es.toList) (k : Key) : k ∈ keysIn es ↔ ∃ e ∈ es.toList, (mixKind P w).is k e.2 = true := by
  rw [List.mem_map]
  constructor
  · rintro ⟨e, he, rfl⟩
    obtain ⟨⟨k', hk', _⟩, _⟩ := el e he
    exact ⟨e, he, by rw [keyAt_of hk']; exact hk'⟩
  · rintro ⟨e, he, hk⟩
    exact ⟨e, he, keyAt_of hk⟩
/-- membership is the library's -/
theorem SetQ.setOf {P : Program} {w : World} {h : Heap} {a : Addr} {S : Key → Bool} {n : Nat} (R : SetQ P w h a S n) : h.SetOf (mixKind P w) a S n := by
  obtain ⟨es, ep, t, R, el, _, mem, sz⟩ := R.scan
  obtain ⟨o, ho, ex, hd⟩ := R.obj
  exact ⟨o, es, ep, t, ho, ex, hd, el, fun k => (mem k).trans (here_key el k), R.low, R.fits, sz⟩
theorem setQ_new {P : Program} {w : World} {h : Heap} {a : Addr} (ho : h.get? a = some (newbie w)) : SetQ P w h a (fun _ => false) 0 := by
  have H := held_new ho
  exact ⟨#[], 0, _, ⟨H.obj, H.fits, H.tab.ris, H.order, by decide⟩, fun e he => by simp at he, List.nodup_nil, fun k => by simp [keysIn], rfl⟩
theorem SetQ.same {P : Program} {w : World} {h : Heap} {a : Addr} {S S' : Key → Bool} {n n' : Nat} (R : SetQ P w h a S n) (e : ∀ k, S' k = S k) (en : n' = n) : SetQ P w h a S' n' := by
  obtain ⟨es, ep, t, K, el, nd, mem, sz⟩ := R.scan
  exact ⟨es, ep, t, K, el, nd, fun k => by rw [e k]; exact mem k, sz.trans en.symm⟩

section
variable {P : Program} {w : World} {A : Around} {E : Value → Shared → Prop} {s : Shared} {a : Addr}

/-- one more is added -/
theorem add_key {S : Key → Bool} {n : Nat} {k : Key} {x : Value} {Q : Bool → Shared → Prop} (R : SetQ P w s.heap a S n) (hk : keyIs k x = true) (room : n + 1 < scanBound)
    (q : ∀ b h', Heap.SameBut a s.heap h' → SetQ P w h' a (fun j => S j || decide (j = k)) (if S k = true then n else n + 1) → Q b { s with heap := h' }) :
    wpAny (model P w) A (setAddHashed a x ((mixKind P w).hash k)) Q E s := by
  obtain ⟨es, ep, t, K, el, nd, mem, sz⟩ := R.scan
  obtain ⟨o, ho, ex, hd⟩ := K.obj
  have hx := scan_leaf hk
  have hk' : (mixKind P w).is k x = true := hk
  unfold setAddHashed
  refine wpAny_holding ?_
  rw [show (100000 : Nat) = 99999 + 1 from rfl, setAddHashedIn_succ]
  refine wpAny_bind (wpAny_setState_of ho hd K.fits ?_)
  dsimp only
  refine wp_if_pos (byScan_of hx K.low el) ?_
  unfold setAddByScan
  refine wpAny_bind (wpAny_bind (wpAny_rule (wpAny_bind (wpAny_setScan_of hk' ho hd K.fits el ?_))))
  cases hf : List.findIdx? (fun e => (mixKind P w).is k e.2) es.toList with
  | some j =>
    obtain ⟨hj, yes, _⟩ := List.findIdx?_eq_some_iff_getElem.mp hf
    have inS : S k = true := (mem k).mpr ((here_key el k).mpr ⟨_, List.getElem_mem hj, yes⟩)
    refine wpAny_pure (wpAny_pure (q false s.heap (Heap.SameBut.refl a s.heap) (R.same (fun i => ?_) (if_pos inS))))
    rcases Classical.em (i = k) with e | e
    · rw [e, inS]; rfl
    · rw [decide_eq_false e, Bool.or_false]
  | none =>
    have out : S k = false := by
      cases c : S k with
      | false => rfl
      | true =>
        obtain ⟨e, he, yes⟩ := (here_key el k).mp ((mem k).mp c)
        have z := List.findIdx?_eq_none_iff.mp hf e he
        rw [yes] at z
        cases z
    have notin : k ∉ keysIn es := fun z => by rw [(mem k).mpr z] at out; cases out
    have pm := layNew_perm t es ((mixKind P w).hash k) x
    have fit := layNew_fits t es ((mixKind P w).hash k) x
    have ris := layNew_ris t es ((mixKind P w).hash k) x K.ris
    have led := layNew_led t es ((mixKind P w).hash k) x
    generalize layNew t es ((mixKind P w).hash k) x = new at pm fit ris led
    obtain ⟨es1, t1, dummy, gave⟩ := new
    dsimp only at pm fit ris led ⊢
    rw [Array.toList_push] at pm
    have ord : w.params.followText "set-order" = true ∨ t1.led = true := K.order.imp id fun z => led.trans z
    have sz1 : es1.size = n + 1 := by
      have z := pm.length_eq
      rw [List.length_append, Array.length_toList, Array.length_toList, sz] at z
      exact z
    have done : ∀ {h' : Heap} {es2 : Array (Int × Value)} {ep2 : Nat} {t2 : SetTable}, Heap.SameBut a s.heap h' → (∃ o, h'.get? a = some o ∧ o.ExactSet ∧ o.data = .set es2 ep2 t2) → t2.fits es2.size = true → Ris t2.place.toList →
        (w.params.followText "set-order" = true ∨ t2.led = true) → es2.toList.Perm es1.toList → Q true { s with heap := h' } := fun {h' es2 ep2 t2} sb at2 fit2 ris2 ord2 p2 => by
      have p3 : es2.toList.Perm (es.toList ++ [((mixKind P w).hash k, x)]) := p2.trans pm
      have sz2 : es2.size = n + 1 := by
        have z := p2.length_eq
        rw [Array.length_toList, Array.length_toList, sz1] at z
        exact z
      have keys : (keysIn es2).Perm (keysIn es ++ [k]) := by
        have z := p3.map fun e => keyAt e.2
        rw [List.map_append, List.map_cons, List.map_nil] at z
        rw [show keyAt x = k from keyAt_of hk] at z
        exact z
      refine q true h' sb ⟨es2, ep2, t2, ⟨at2, fit2, ris2, ord2, by rw [sz2]; exact room⟩, ElemsOf.perm (el.push hk' hx) p3, keys.nodup_iff.mpr ?_, fun j => ?_, by rw [if_neg (by rw [out]; decide)]; exact sz2⟩
      · exact List.nodup_append.mpr ⟨nd, by simp, fun i hi j hj e => notin (by rw [← List.mem_singleton.mp hj, ← e]; exact hi)⟩
      · rw [keys.mem_iff, List.mem_append, List.mem_singleton, Bool.or_eq_true, decide_eq_true_iff, mem j]
    have stay1 : ∀ t2 : SetTable, Heap.SameBut a s.heap (s.heap.update a (Obj.putSet es1 t2)) := fun t2 => Heap.SameBut.update s.heap a _
    have obj1 : ∀ t2 : SetTable, (s.heap.update a (Obj.putSet es1 t2)).get? a = some { o with data := .set es1 (ep + 1) t2 } := fun t2 => by
      have z := Heap.get?_update_self (Obj.putSet es1 t2) ho (by rw [putSet_of es1 t2 hd] <;> rfl)
      rw [putSet_of es1 t2 hd] at z
      exact z
    have sizes1 : es1.size ≤ sizeLine := fits_of_scanBound (by rw [sz1]; exact room)
    -- the rest behind the new table
    have rest : ∀ (t2 : SetTable) (g : Bool → Sem Unit), (∀ b (s1 : Shared) (Q' : Unit → Shared → Prop), Q' () s1 → wpAny (model P w) A (g b) Q' E s1) → t2.fits es1.size = true → Ris t2.place.toList → (w.params.followText "set-order" = true ∨ t2.led = true) →
        wpAny (model P w) A (do
          storeSet a es1 t2
          if (!dummy && t2.tooFull) = true then do
            g (relayAll t2 es1 (SetTable.grown es1.size)).2.2
            storeSet a (relayAll t2 es1 (SetTable.grown es1.size)).1 (relayAll t2 es1 (SetTable.grown es1.size)).2.1
            pure (some true)
          else pure (some true)) (fun r s2 => r = some true ∧ Q true s2) E s := fun t2 g hg fit2 ris2 ord2 => by
      refine wpAny_bind (wpAny_storeSet_of ho hd ?_ sizes1)
      split
      · have pm2 := relayAll_perm t2 es1 (SetTable.grown es1.size)
        have fit3 := relayAll_fits t2 es1 (SetTable.grown es1.size)
        have ris3 := relayAll_ris t2 es1 (SetTable.grown es1.size)
        have led3 := relayAll_led t2 es1 (SetTable.grown es1.size)
        generalize relayAll t2 es1 (SetTable.grown es1.size) = new2 at pm2 fit3 ris3 led3
        obtain ⟨es2, t3, gave2⟩ := new2
        dsimp only at pm2 fit3 ris3 led3 ⊢
        have sz2 : es2.size = es1.size := by
          have z := pm2.length_eq
          rw [Array.length_toList, Array.length_toList] at z
          exact z
        refine wpAny_bind (hg _ _ _ ?_)
        refine wpAny_bind (wpAny_storeSet_of (obj1 t2) rfl ?_ (by rw [sz2]; exact sizes1))
        refine wpAny_pure ⟨rfl, done ((stay1 t2).trans (Heap.SameBut.update _ a _)) ⟨{ o with data := .set es2 (ep + 1 + 1) t3 }, ?_, ex, rfl⟩ fit3 ris3 (ord2.imp id fun z => led3.trans z) pm2⟩
        have z := Heap.get?_update_self (Obj.putSet es2 t3) (obj1 t2) (by rw [putSet_of es2 t3 rfl] <;> rfl)
        rw [putSet_of es2 t3 rfl] at z
        exact z
      · exact wpAny_pure ⟨rfl, done (stay1 t2) ⟨_, obj1 t2, ex, rfl⟩ fit2 ris2 ord2 (List.Perm.refl _)⟩
    have ends : ∀ {m : Sem (Option Bool)}, wpAny (model P w) A m (fun r s2 => r = some true ∧ Q true s2) E s → wpAny (model P w) A m (fun r s2 => wpAny (model P w) A (match r with | some added => pure added | none => setAddHashedIn a x ((mixKind P w).hash k) 99999) Q E s2) E s := fun {m} h => wpAny_mono h (fun r s2 ⟨e, z⟩ => by rw [e]; exact wpAny_pure z) fun _ _ z => z
    have ways : ∀ (b : Bool) (s1 : Shared) (Q' : Unit → Shared → Prop), Q' () s1 → wpAny (model P w) A (match b with | true => rule "set.scan.the-table-gave-way" | false => pure ()) Q' E s1 := fun b s1 Q' z => by
      cases b with
      | true => exact wpAny_rule z
      | false => exact wpAny_pure z
    refine wpAny_bind (ways _ _ _ ?_)
    by_cases pl : t1.plain = true
    · refine wp_if_pos pl ?_
      rw [hashByValue_scannable 8 hx]
      refine wpAny_bind (wpAny_pure ?_)
      have three : ∀ y : Bool, (if y = true then t1 else { t1 with plain := false }).fits es1.size = true ∧ Ris (if y = true then t1 else { t1 with plain := false }).place.toList ∧ (w.params.followText "set-order" = true ∨ (if y = true then t1 else { t1 with plain := false }).led = true) := fun y => by
        cases y with
        | true => exact ⟨fit, ris, ord⟩
        | false => exact ⟨SetTable.fits_plain_off fit, ris, ord⟩
      obtain ⟨u1, u2, u3⟩ := three (plainKind x)
      exact ends (rest _ _ ways u1 u2 u3)
    · refine wp_if_neg pl (wpAny_bind (wpAny_pure ?_))
      exact ends (rest t1 _ ways fit ris ord)
end
end MX
end
section
/-! set(..), sorted(..), in and add read: numbers and words. -/
namespace MX
open PySem PySem.Spec PyProof.Rows L2 PySem.W

def SetQO (P : Program) (w : World) (a : Addr) (S : Key → Bool) (n : Nat) : HO := .ext fun h => SetQ P w h a S n
theorem ok_setQO {P : Program} {w : World} {H : Hp} {h : Heap} {a : Addr} {S : Key → Bool} {n : Nat} (R : SetQ P w h a S n) : ObjOk P w H h a (SetQO P w a S n) := ⟨R, R.some_obj, fun _ _ p k => SetQ.stays p k⟩
/-- whether a key is a number -/
def isNum : Key → Bool
  | .inl _ => true
  | .inr _ => false
def rSetQ (K : PySem.W.Frag) (P : Program) (w : World) : List V → Hp → VK → Prop := fun xs H Q => ∃ (a : Addr) (ks : List Key), xs = [V.ref a] ∧ (SqL K H a (ks.map kV) ∨ SqT K H a (ks.map kV)) ∧ ks.length < 4096 ∧
  ∀ (p : Addr) (S : Key → Bool) (n : Nat), H p = none → (∀ k, S k = true ↔ k ∈ ks) → n ≤ ks.length → Q (.ref p) (upd H p (SetQO P w p S n))
def rSortedQ (P : Program) (w : World) : List V → Hp → VK → Prop := fun xs H Q => ∃ (a : Addr) (S : Key → Bool) (n : Nat) (b : Bool), xs = [V.ref a] ∧ H a = some (SetQO P w a S n) ∧ (∀ k, S k = true → isNum k = b) ∧
  ∀ (M : List Key) (q : Addr), Up M → (∀ k, k ∈ M ↔ S k = true) → M.length = n → H q = none → Q (.ref q) (upd H q (.lst (M.map kV)))
def rInQ (P : Program) (w : World) (neg : Bool) : V → V → Hp → VK → Prop := fun x y H Q => ∃ (k : Key) (a : Addr) (S : Key → Bool) (n : Nat), x = kV k ∧ y = V.ref a ∧ H a = some (SetQO P w a S n) ∧ Q (.bl (if neg = true then !S k else S k)) H
def rAddQ (P : Program) (w : World) : V → List V → Hp → VK → Prop := fun x xs H Q => ∃ (a : Addr) (k : Key) (S : Key → Bool) (n : Nat), x = V.ref a ∧ xs = [kV k] ∧ H a = some (SetQO P w a S n) ∧ n + 1 < scanBound ∧
  Q .non (upd H a (SetQO P w a (fun j => S j || decide (j = k)) (if S k = true then n else n + 1)))

theorem each_keys {P : Program} {w : World} : ∀ {l : List (Int × Value)}, ElemsOf (mixKind P w) l → EachIs (fun v k => keyIs k v = true) (l.map (·.2)) (l.map fun e => keyAt e.2)
  | [], _ => .nil
  | e :: l, h => by
    obtain ⟨⟨k, hk, _⟩, _⟩ := h e List.mem_cons_self
    have z : keyIs (keyAt e.2) e.2 = true := by
      have y : keyIs k e.2 = true := hk
      rw [keyAt_of y]
      exact y
    exact .cons z (each_keys fun x hx => h x (List.mem_cons_of_mem _ hx))
theorem is_key {k : Key} {v : Value} (r : RelV (kV k) v) : keyIs k v = true := by
  cases k with
  | inl i => obtain ⟨t, rfl⟩ := r; exact keyIs_int i t
  | inr x => obtain ⟨t, rfl⟩ := r; exact keyIs_str x t
theorem vals_keys : ∀ {ks : List Key} {us : List Value}, EachIs (fun v k => keyIs k v = true) us ks → Vals (ks.map kV) us
  | [], _, .nil => .nil
  | k :: ks, _, .cons e t => by
    refine .cons ?_ (vals_keys t)
    rcases keyIs_shape e with ⟨i, t, rfl, rfl⟩ | ⟨x, t, rfl, rfl⟩
    · exact ⟨t, rfl⟩
    · exact ⟨t, rfl⟩
theorem each_at {ks : List Key} {us : List Value} (v : Vals (ks.map kV) us) : EachIs (fun v k => keyIs k v = true) us ks := by
  induction ks generalizing us with
  | nil => cases v; exact .nil
  | cons k ks ih =>
    cases v with
    | cons r t => exact .cons (is_key r) (ih t)
theorem each_get {R : Value → Key → Prop} : ∀ {us : List Value} {ks : List Key}, EachIs R us ks → ∀ {i : Nat} {v : Value}, us[i]? = some v → ∃ k, ks[i]? = some k ∧ R v k
  | _, _, .nil, _, _, e => by simp at e
  | _, _, .cons r t, 0, _, e => by cases e; exact ⟨_, rfl, r⟩
  | _, _, .cons r t, i + 1, _, e => each_get t e
theorem alike_num {a b : Key} (e : isNum a = isNum b) : alike (ofKey a) (ofKey b) = true := by
  cases a with
  | inl i =>
    cases b with
    | inl j => rfl
    | inr y => cases e
  | inr x =>
    cases b with
    | inl j => cases e
    | inr y => rfl
theorem up_of {l : List Key} {b : Bool} (all : ∀ k ∈ l, isNum k = b) (nd : l.Nodup) (pw : l.Pairwise fun k k' => dataLt (ofKey k') (ofKey k) = false) : Up l := by
  refine (List.Pairwise.and nd pw).imp_of_mem fun {k k'} hk hk' ⟨ne, le⟩ => ?_
  cases e : kl k k' with
  | true => rfl
  | false => exact absurd (key_same (alike_num ((all k hk).trans (all k' hk').symm)) e le) ne

section
variable {X : Cx} {pins : List (Addr × Obj)} {σ : L2.St} {H : Hp} {s : Shared}
theorem get_setQ (I : Inv X pins σ H s) {a : Addr} {S : Key → Bool} {n : Nat} (e : H a = some (SetQO X.prog X.w a S n)) : SetQ X.prog X.w s.heap a S n := (I.hok a _ e).1
theorem cr_setQ (hc : X.calm = true) (hu : X.A.units + 64 < cLine) : CallR X (.type "set") (rSetQ X.K X.prog X.w) := by
  intro pins s σ H xs us Q I r h
  obtain ⟨a, ks, rfl, ha, few, q⟩ := h
  rw [Vals.ref1 r]
  have seq : ∃ items : Array Value, (s.heap.IsList a items ∨ s.heap.IsTuple a items) ∧ EachIs (fun v k => keyIs k v = true) items.toList ks := by
    rcases ha with ha | ha
    · obtain ⟨its, rv, pl, _⟩ := I.list ha
      exact ⟨its.toArray, .inl pl.isList, by simpa using each_at rv⟩
    · obtain ⟨its, rv, ht, _⟩ := I.tuple ha
      exact ⟨its.toArray, .inr ht, by simpa using each_at rv⟩
  obtain ⟨items, at_, each⟩ := seq
  have size : items.size = ks.length := by rw [← Array.length_toList, each.length]
  have free : H s.heap.objs.size = none := I.hok.fresh (Nat.le_refl _)
  refine set_seq at_ (I.ok.hd hc) (fun i h' => ∃ S n, SetQ X.prog X.w h' s.heap.objs.size S n ∧ (∀ k, S k = true ↔ k ∈ ks.take i) ∧ n ≤ i) ?_ ?_ ?_ ?_
  · intro h' old made
    exact ⟨_, 0, setQ_new made, fun k => by simp, Nat.le_refl 0⟩
  · rintro i h1 h2 ⟨S, n, R, mem, le⟩ k
    exact ⟨S, n, R.stays fun o e => k _ o (Nat.le_refl _) e, mem, le⟩
  · rintro A' i v s1 E' Q' low ev ⟨S, n, R, mem, le⟩ _ k
    obtain ⟨key, hkey, is⟩ := each_get each (i := i) (v := v) (by rw [Array.getElem?_toList]; exact ev)
    have lt : i < ks.length := (List.getElem?_eq_some_iff.mp hkey).1
    unfold setAdd
    refine wpAny_holding (wpAny_bind ((mixKind X.prog X.w).pyHash is ?_))
    refine add_key (s := { s1 with toks := s1.toks + 1 }) R is (show n + 1 < 4096 by omega) fun b h' sb R' => k b h' _ (Nat.le_succ _) sb ⟨_, _, R', fun j => ?_, ?_⟩
    · rw [List.take_add_one, hkey, Bool.or_eq_true, mem j, decide_eq_true_iff]
      simp [List.mem_append]
    · split <;> omega
  · rintro h' tk ⟨S, n, R, mem, le⟩ old
    rw [size] at mem le
    rw [List.take_length] at mem
    exact ⟨.ref _, upd H s.heap.objs.size (SetQO X.prog X.w s.heap.objs.size S n), I.laid (t' := tk) old (Nat.le_refl _) (ok_setQO R), rfl, q _ S n free mem le⟩

theorem cr_sortedQ (hc : X.calm = true) (hu : X.A.units + 64 < cLine) : CallR X (.builtin "sorted") (rSortedQ X.prog X.w) := by
  intro pins s σ H xs us Q I r h
  obtain ⟨a, S, n, b, rfl, ha, all, q⟩ := h
  have R := get_setQ I ha
  obtain ⟨es, ep, t, K, el, nd, mem, sz⟩ := R.scan
  rw [Vals.ref1 r]
  have at_ : SetAt s.heap a es ep t := by
    obtain ⟨o, ho, ex, hd⟩ := K.obj
    exact ⟨o, ho, ex.1, hd⟩
  have num : ∀ k ∈ keysIn es, isNum k = b := fun k hk => all k ((mem k).mpr hk)
  refine sort_held (enc := ofKey) (R := fun v k => keyIs k v = true) (bs := keysIn es) at_ K.fits K.low K.ris K.order (I.ok.hd hc) (each_keys el) ?_ ?_ ?_ ?_ ?_
  · intro v k h' old e
    rcases keyIs_shape e with ⟨i, t, rfl, rfl⟩ | ⟨x, t, rfl, rfl⟩
    · exact .int i t
    · exact .str x t
  · exact fun k hk k' hk' => alike_num ((num k hk).trans (num k' hk').symm)
  · exact fun ds _ => Sortable.others fun k => by cases k <;> exact ⟨by simp [ofKey], by simp [ofKey]⟩
  · intro k hk
    have e : (ofKey k).depth = 0 := by cases k <;> rfl
    rw [e]
    omega
  · intro s' p out c M old g o big made eM pM pw
    have free : H p = none := I.hok.fresh big
    have lenM : M.length = n := by
      rw [pM.length_eq, List.length_map, Array.length_toList]
      exact sz
    have low : (M.map kV).length ≤ sizeLine := by
      rw [List.length_map, lenM, ← sz]
      exact fits_of_scanBound K.low
    have J : Inv X pins σ (upd H p (.lst (M.map kV))) s' := I.call' (ch := []) o (Un.laid old big free) (I.hok.laid old big ⟨low, out.toList, c, vals_keys eM, by simpa [seqObj] using made⟩) (by rw [g]; exact I.bare) (fun _ z => nomatch z)
    exact ⟨.ref p, _, J, rfl, q M p (up_of (fun k hk => num k (pM.mem_iff.mp hk)) (pM.nodup_iff.mpr nd) pw) (fun k => by rw [pM.mem_iff, mem k]) lenM free⟩

theorem op_inQ : OpR X (compareOp .In) (rInQ X.prog X.w false) := by
  intro pins s σ H x y v u Q I rx ry h
  obtain ⟨k, a, S, n, rfl, rfl, ha, q⟩ := h
  have is := is_key rx
  cases ry
  exact wpAny_inSet_of (knd := mixKind X.prog X.w) is (scan_leaf is) (get_setQ I ha).setOf (show EP X pins σ Q _ _ from ⟨.bl (S k), H, I.tok _, rfl, q⟩)
theorem op_notInQ : OpR X (compareOp .NotIn) (rInQ X.prog X.w true) := by
  intro pins s σ H x y v u Q I rx ry h
  obtain ⟨k, a, S, n, rfl, rfl, ha, q⟩ := h
  have is := is_key rx
  cases ry
  exact wpAny_notInSet_of (knd := mixKind X.prog X.w) is (scan_leaf is) (get_setQ I ha).setOf (show EP X pins σ Q _ _ from ⟨.bl (!S k), H, I.tok _, rfl, q⟩)

/-- found.add(k), the call itself -/
theorem call_add {A : Around} {E : Value → Shared → Prop} {a : Addr} {S : Key → Bool} {n : Nat} {k : Key} {x : Value} {Q : Value → Shared → Prop} {P : Program} {w : World} (R : SetQ P w s.heap a S n) (is : keyIs k x = true) (room : n + 1 < scanBound)
    (q : ∀ h', Heap.SameBut a s.heap h' → SetQ P w h' a (fun j => S j || decide (j = k)) (if S k = true then n else n + 1) → Q .none { s with heap := h', toks := s.toks + 1 }) :
    wpAny (model P w) A (call (.builtin "set.add") [.ref a, x]) Q E s := by
  have ty : s.TypeIs (.ref a) "set" := R.setOf.typeIs
  refine wpAny_call_entry F.slot_set_add ty F.entry_set_add ?_ (F.args_set_add_2 (.ref a) x)
  unfold Builtin.«set.add» Builtin.Frozenset.oneOther Builtin.Frozenset.addrOf
  refine wpAny_bind (wpAny_bind (wpAny_pure ?_))
  try dsimp only
  refine wpAny_bind (wpAny_pure (wpAny_pure ?_))
  unfold setAdd
  refine wpAny_bind (wpAny_holding (wpAny_bind ((mixKind P w).pyHash is ?_)))
  refine add_key (s := { s with toks := s.toks + 1 }) R is room fun b h' sb R' => ?_
  exact wpAny_pure ⟨_, rfl, q h' sb R'⟩
theorem wrote (I : Inv X pins σ H s) {a : Addr} {S S' : Key → Bool} {n n' t' : Nat} {h' : Heap} (e : H a = some (SetQO X.prog X.w a S n)) (sb : Heap.SameBut a s.heap h') (R' : SetQ X.prog X.w h' a S' n') :
    Inv X pins σ (upd H a (SetQO X.prog X.w a S' n')) { s with heap := h', toks := t' } :=
  I.write (e := a) (t' := t') (by rw [e]; exact True.intro) (.inl rfl) (fun b u ne hu => (sb.2 b ne).trans hu) R'.some_obj (ok_setQO R')
def tAddQ (P : Program) (w : World) (to : TE) (t : TA) : TE := fun σ H Q => to σ H fun x H1 => (∃ a S n, x = V.ref a ∧ H1 a = some (SetQO P w a S n)) ∧ t σ H1 fun xs H2 => rAddQ P w x xs H2 Q
theorem pe_addQ {o e : Expr} {es : List Expr} {to : TE} {t : TA} {apos cpos : Pos} (ho : PE X o to) (ha : PA X (e :: es) t)
    (plain : attributeBase o "add" X.env (eval o X.env) = eval o X.env := by rfl)
    (few : ((backTo cpos (starEach (e :: es) X.env)).all (fun x => !x.1) && (backToKw cpos (keywordEach [] X.env)).all (fun x => x.1.isSome)
      && decide ((e :: es).length + ([] : List Keyword).length + (if ([] : List Keyword).isEmpty then 0 else 1) < 30)) = true := by rfl)
    (row : (apos.endLine == cpos.line) = true := by rfl) (first : starEach (e :: es) X.env = (false, eval e X.env) :: starEach es X.env := by rfl) (nost : (backTo cpos (starEach es X.env)).any (·.1) = false := by rfl) :
    PE X (.Call (.Attribute o "add" apos) (e :: es) [] cpos) (tAddQ X.prog X.w to t) := by
  constructor
  intro pins s σ H Q I h
  refine wpAny_Call_method_late plain few row rfl ?_
  refine thn (ho.run pins s σ H _ I h) fun v s1 ⟨x, H1, I1, r1, known, q1⟩ => ?_
  obtain ⟨a, S, n, rfl, at_⟩ := known
  obtain rfl : v = Value.ref a := r1
  have lib := (get_setQ I1 at_).setOf
  refine ⟨"set", "set.add", F.plainAttrs_set, F.slot_set_add, F.type_set_add, lib.typeIs, lib.noDict, ?_⟩
  have args := ha.run cpos pins s1 σ H1 _ I1 q1
  rw [first] at args ⊢
  refine Calls.callWith_builtin ?_ (Calls.evalArgs_plain (thn args fun us s2 ⟨vs, H2, I2, r2, q2⟩ => ?_))
  · show (false || List.any (backTo cpos (starEach es X.env)) (·.1)) = false
    rw [nost, Bool.or_false]
  obtain ⟨b, k, S2, n2, eb, rfl, hb, room, q3⟩ := q2
  cases eb
  cases r2 with
  | cons ru rest =>
    cases rest
    refine call_add (get_setQ I2 hb) (is_key ru) room fun h' sb R' => ?_
    exact ⟨.non, upd H2 a (SetQO X.prog X.w a (fun j => S2 j || decide (j = k)) (if S2 k = true then n2 else n2 + 1)), wrote I2 hb sb R', rfl, q3⟩
end
end MX
end
section
/-! Comprehensions that gather something new, whatever it is. -/
namespace MX
open PySem PySem.Spec PyProof.Rows L2 PySem.W

/-- new D: what stands at D at first; body: what a turn does when its tests are true -/
def tGather (new : Addr → HO) (body : Addr → L2.St → Hp → (Hp → Prop) → Prop) (wi : TI) (g : TG) (tt : TT) (vs : List Nat) : TE := fun σ H Q => wi σ H fun J H1 => ∀ D, H1 D = none →
  ∃ W : Nat → Nat → Hp → Prop, (∃ m, W 0 m (upd H1 D (new D))) ∧ ∀ i m H2, W i m H2 → (J.stop i H2 ∧ Q (.ref D) H2) ∨
    (J.go i H2 ∧ ∃ Nx : Hp → Prop, (∀ H', Nx H' → ∃ m', m' < m ∧ W (i + 1) m' H') ∧ ∀ x H', J.yld i H2 x H' → g x (wipe σ vs) H' fun σ2 H3 => wipe σ2 vs = wipe σ vs ∧ tt σ2 H3 fun b H4 => if b = true then body D σ2 H4 Nx else Nx H4)

section
variable {X : Cx}
abbrev nobody : Value → Shared → Prop := fun _ _ => False
/-- one turn of the block's loop: Iv what holds between turns, B the block's context -/
def OneTurn (X B : Cx) (tg : Expr) (ifs : List Expr) (it : Addr) (body : L2.St → Hp → (Hp → Prop) → Prop) (Iv : Nat → Shared → Prop) (stop : Shared → Prop) (n : Nat) (s : Shared) : Prop :=
  wpAny (model X.prog X.w) X.A (pyNext (.ref it)) (fun r s1 => match r with
    | none => stop s1
    | some v => wpAny (model X.prog X.w) X.A (letOwnedTupleGo tg (.ref it) v) (fun _ s2 => wpAny (model X.prog X.w) X.A (assign tg B.env v) (fun _ s3 =>
        wpAny (model X.prog X.w) X.A (forIn ifs true fun c r => if r = true then do let ok ← isTrue c B.env (eval c B.env); pure (ForInStep.yield ok) else pure (ForInStep.yield r)) (fun b s4 =>
          ∃ pl σ H Nx, L2.Inv B pl σ H s4 ∧ (if b = true then body σ H Nx else Nx H) ∧ ∀ s' H', L2.Inv B pl σ H' s' → Nx H' → ∃ m, m < n ∧ Iv m s') nobody s3) nobody s2) nobody s1) nobody s

theorem gather {e tg iter : Expr} {ifs : List Expr} {scope : Scope} {own : List (PySem.Str × Nat)} {pos' : Pos} {mk : Sem Value} {o0 : Obj} {new : Addr → HO} {body : Addr → L2.St → Hp → (Hp → Prop) → Prop} {wi : TI} {g : TG} {tt : TT} {use : Option (Value → Sem Unit)}
    {Qf : Value → Shared → Prop} {pins : List (Addr × Obj)} {s : Shared} {σ : L2.St} {H : Hp} {Q : VK} (hc : X.calm = true) (hN : X.N.Nodup) (I : L2.Inv X pins σ H s) (hi : PI X tg iter wi) (ok : BlkOk X.N X.env.scope scope own) (clauses : clausesOf e = [⟨tg, iter, ifs, 0⟩])
    (hmk : ∀ (s : Shared) (Q : Value → Shared → Prop), Q (.ref s.heap.objs.size) { s with heap := s.heap.push o0 } → wpAny (model X.prog X.w) X.A mk Q X.xe s)
    (hnew : ∀ (s : Shared) (H : Hp), L2.Inv X pins σ H s → ObjOk X.prog X.w (upd H s.heap.objs.size (new s.heap.objs.size)) (s.heap.push o0) s.heap.objs.size (new s.heap.objs.size))
    (hg : ∀ (s : Shared) (H : Hp) (C : Addr) (cl : List (PySem.Str × Addr)) (fp : List Addr), PG (X.blk s H scope (compEnvC scope cl C X.env) fp) tg g) (ht : ∀ (s : Shared) (H : Hp) (C : Addr) (cl : List (PySem.Str × Addr)) (fp : List Addr), PTs (X.blk s H scope (compEnvC scope cl C X.env) fp) ifs tt)
    (loops : ∀ (s3 : Shared) (H3 : Hp) (C : Addr) (cl : List (PySem.Str × Addr)) (fp : List Addr) (it D : Addr) (Iv : Nat → Shared → Prop) (R : Result → Shared → Prop),
      (∀ n s5, Iv n s5 → OneTurn X (X.blk s3 H3 scope (compEnvC scope cl C X.env) fp) tg ifs it (body D) Iv (fun s1 => R (.ok .next) s1) n s5) → ∀ n s4, Iv n s4 → codeAny (model X.prog X.w) X.A (.compLoop e 0 (.ref it) (.ref D) (compEnvC scope cl C X.env)) R s4)
    (starts : ∀ (it acc : Value) (ce : Env) (R : Result → Shared → Prop) (s4 : Shared), codeAny (model X.prog X.w) X.A (.compLoop e 0 it acc ce) R s4 →
      wpAny (model X.prog X.w) X.A (pyIter it) (fun it' s' => codeAny (model X.prog X.w) X.A (.compLoop e 0 it' acc ce) R s') (notedBy (model X.prog X.w) X.A ce fun x s' => R (.error x) s') s4 → codeAny (model X.prog X.w) X.A (.compStart e 0 it acc ce) R s4)
    (hs : ∀ x, foldedSetIterable iter X.env x = pure x) (h : tGather new body wi g tt (own.map (·.2)) σ H Q)
    (out : ∀ D C s' m H', L2.Inv X pins σ H' s' → Q (.ref D) H' → s'.heap.Ns C m → FpOk X pins H' C → compPost (model X.prog X.w) X.A X.xe use Qf (.ref D) C (.ok .next) s') :
    wpAny (model X.prog X.w) X.A (comprehension e scope X.env pos' mk false (eval iter X.env) use) Qf X.xe s := by
  have closed : ∀ y ∈ scope.names, y.2 = .free → ∃ c, X.env.cells.lookup y.1 = some c := fun y hy ey =>
    (ok.free y hy ey).elim (fun k => I.ok.has _ (.inl k)) fun k => I.ok.has _ (.inr k)
  refine wpAny_comprehension_free (use := use) clauses hs (closure_ok closed) ok.kind (fun y hy ey => by rw [ok.uniq y hy, ey]) ?_
  refine thn (hi.run pins s σ H _ I h) fun _ _ hx => thn hx fun itv s2 h2 => ?_
  obtain ⟨it, fp, tn, J, H2, rfl, I2, T, st2, f2, q⟩ := h2
  refine hmk s2 _ (newEnv_comp ?_)
  have fresh : H2 s2.heap.objs.size = none := I2.hok.fresh (Nat.le_refl _)
  obtain ⟨W, ⟨m0, w0⟩, turn⟩ := q s2.heap.objs.size fresh
  have I3 : L2.Inv X pins σ (upd H2 s2.heap.objs.size (new s2.heap.objs.size)) { s2 with heap := s2.heap.push o0 } := I2.laid (t' := s2.toks) (fun b o eo => Heap.get?_push_of_some _ eo) (Nat.le_refl _) (hnew s2 H2 I2)
  have up : ∀ b o, s2.heap.get? b = some o → (s2.heap.push o0).get? b = some o := fun b o eo => Heap.get?_push_of_some _ eo
  have f3 : ∀ b ∈ fp, FpOk X pins (upd H2 s2.heap.objs.size (new s2.heap.objs.size)) b ∧ b < (s2.heap.push o0).objs.size := fun b hb => by
    obtain ⟨o, eo, _⟩ := T.obj _ _ st2 b hb
    have lt := Heap.lt_size eo
    refine ⟨⟨?_, (f2 b hb).2⟩, by rw [Heap.size_push]; exact Nat.lt_succ_of_lt lt⟩
    rw [upd_ne (Nat.ne_of_lt lt)]
    exact (f2 b hb).1
  have st3 : tn 0 (s2.heap.push o0) := T.keep _ _ _ st2 fun b _ o eo => up b o eo
  have I4 := block_start I3 ok hN f3
  obtain ⟨cl, ecl⟩ : ∃ cl, cl = cellsFrom ((s2.heap.push o0).objs.size + 1) scope.names (cloFrom X.env.cells scope.names []) := ⟨_, rfl⟩
  have st4 : tn 0 (pushCells ((s2.heap.push o0).push { cls := .type "dict", data := .dict #[] }) scope.names) := T.keep _ _ _ st3 fun b _ o eo => pushCells_keeps _ _ _ _ (Heap.get?_push_of_some _ eo)
  obtain ⟨s4, es4⟩ : ∃ s4 : Shared, s4 = { s2 with heap := pushCells ((s2.heap.push o0).push { cls := .type "dict", data := .dict #[] }) scope.names } := ⟨_, rfl⟩
  have I4 : L2.Inv (X.blk { s2 with heap := s2.heap.push o0 } (upd H2 s2.heap.objs.size (new s2.heap.objs.size)) scope (compEnvC scope cl (s2.heap.push o0).objs.size X.env) fp) [] (wipe σ (own.map (·.2))) (upd H2 s2.heap.objs.size (new s2.heap.objs.size)) s4 := by
    rw [es4, ecl]
    exact I4
  have st4' : tn 0 s4.heap := by rw [es4]; exact st4
  have none0 : ∀ b ∈ fp, upd H2 s2.heap.objs.size (new s2.heap.objs.size) b = none := fun b hb => (f3 b hb).1.1
  have loop := loops { s2 with heap := s2.heap.push o0 } (upd H2 s2.heap.objs.size (new s2.heap.objs.size)) (s2.heap.push o0).objs.size cl fp it s2.heap.objs.size
    (fun n s' => ∃ i H', L2.Inv (X.blk { s2 with heap := s2.heap.push o0 } (upd H2 s2.heap.objs.size (new s2.heap.objs.size)) scope (compEnvC scope cl (s2.heap.push o0).objs.size X.env) fp) [] (wipe σ (own.map (·.2))) H' s' ∧ tn i s'.heap ∧ (∀ b ∈ fp, H' b = none) ∧ W i n H')
    (compPost (model X.prog X.w) X.A X.xe use Qf (.ref s2.heap.objs.size) (s2.heap.push o0).objs.size) ?_ m0 s4 ⟨0, _, I4, st4', none0, w0⟩
  · have all : codeAny (model X.prog X.w) X.A (.compStart e 0 (.ref it) (.ref s2.heap.objs.size) (compEnvC scope cl (s2.heap.push o0).objs.size X.env)) (compPost (model X.prog X.w) X.A X.xe use Qf (.ref s2.heap.objs.size) (s2.heap.push o0).objs.size) s4 :=
      starts _ _ _ _ _ loop (T.self X.A 0 _ _ _ st4' loop)
    rw [es4, ecl] at all
    exact all
  · rintro n s5 ⟨i, H5, I5, st5, n5, w5⟩
    have fine : ∀ {H' : Hp} {s' : Shared}, L2.Inv (X.blk { s2 with heap := s2.heap.push o0 } (upd H2 s2.heap.objs.size (new s2.heap.objs.size)) scope (compEnvC scope cl (s2.heap.push o0).objs.size X.env) fp) [] (wipe σ (own.map (·.2))) H' s' → (∀ b ∈ fp, H' b = none) →
        ∀ b ∈ fp, FpOk (X.blk { s2 with heap := s2.heap.push o0 } (upd H2 s2.heap.objs.size (new s2.heap.objs.size)) scope (compEnvC scope cl (s2.heap.push o0).objs.size X.env) fp) [] H' b := fun {H' s'} I' hn b hb =>
      ⟨hn b hb, (I'.ok.exf b hb).1, I'.ok.exfs b hb, .inl hb, fun x c ec => (I'.ok.exf b hb).2 x c ec, fun p hp => nomatch hp⟩
    unfold OneTurn
    rcases turn i n H5 w5 with ⟨stop, qs⟩ | ⟨go, Nx, less, step⟩
    · refine thnF (T.done (X.blk _ _ scope _ fp) rfl rfl rfl hc i [] s5 _ H5 nobody I5 (fine I5 n5) st5 stop) fun r s6 ⟨er, I6⟩ => ?_
      subst er
      have I7 : L2.Inv X pins σ H5 s6 := I3.call' (ch := fp) I6.os I6.base I6.hok I6.bare fun b hb => by
        obtain ⟨_, k1, k2, k3, k4, k5⟩ := (f3 b hb).1
        exact ⟨k3, k1, k4, k5⟩
      obtain ⟨mm, ns, _⟩ := I6.loc
      exact out _ _ s6 mm H5 I7 qs ns (I3.fpOk (Nat.le_refl _) I6.free)
    · refine thnF (T.item (X.blk _ _ scope _ fp) rfl rfl rfl hc i [] s5 _ H5 nobody I5 (fine I5 n5) st5 go) fun r s6 ⟨u, er, h6⟩ => ?_
      subst er
      refine thnF h6 fun _ s7 ⟨x, H7, I7, rel, yl, st7, n7⟩ => ?_
      have I8 := I7.pinned (fine I7 n7) (T.obj _ _ st7)
      refine thnF ((hg _ _ _ cl fp).run _ s7 _ H7 x u _ I8 rel (step x H7 yl)) fun _ s8 ⟨σ8, H8, I9, kw, q8⟩ => ?_
      refine thnF ((ht _ _ _ cl fp).run _ s8 σ8 H8 _ I9 q8) fun b s9 ⟨H9, I10, q9⟩ => ?_
      refine ⟨_, σ8, H9, Nx, I10, q9, fun s' H' I' nx => ?_⟩
      obtain ⟨m', lt, w'⟩ := less H' nx
      have held : ∀ c ∈ fp, ∀ o, s7.heap.get? c = some o → s'.heap.get? c = some o ∧ H' c = none := fun c hcc o eo => by
        obtain ⟨k1, k2, _⟩ := I'.pin (c, o) (List.mem_append_right _ (List.mem_append_right _ (mem_pinsAt hcc eo)))
        exact ⟨k1, k2⟩
      refine ⟨m', lt, i + 1, H', (I'.unpinned (pins := [])).weak (by rw [← kw, wipe_length]) (fun j v ev => ?_), T.keep _ _ _ st7 fun c hcc o eo => (held c hcc o eo).1, fun c hcc => ?_, w'⟩
      · rw [← kw] at ev
        exact (wipe_some ev).1
      · obtain ⟨o, eo, _⟩ := T.obj _ _ st7 c hcc
        exact (held c hcc o eo).2
end
end MX
end
section
/-! {e for x in xs if t} with numbers or words; {x: v for x in xs} whose keys are tuples. -/
namespace MX
open PySem PySem.Spec PyProof.Rows L2 PySem.W

def tSetQ (P : Program) (w : World) (wi : TI) (g : TG) (tt : TT) (te : TE) (vs : List Nat) : TE :=
  tGather (fun D => SetQO P w D (fun _ => false) 0) (fun D σ H Nx => te σ H fun y H4 => ∃ (k : Key) (S : Key → Bool) (n : Nat), y = kV k ∧ H4 D = some (SetQO P w D S n) ∧ n + 1 < scanBound ∧
    Nx (upd H4 D (SetQO P w D (fun j => S j || decide (j = k)) (if S k = true then n else n + 1)))) wi g tt vs
def tDcT (wi : TI) (g : TG) (tt : TT) (tk tv : TE) (vs : List Nat) : TE :=
  tGather (fun _ => .dT []) (fun D σ H Nx => tk σ H fun y H4 => tv σ H4 fun z H5 => ∃ (kvs : List (List Key × V)) (k : List Key) (b : Addr), y = .ref b ∧ H5 b = some (.tup (k.map kV)) ∧ H5 D = some (.dT kvs) ∧ kvs.length < sizeLine ∧
    Nx (upd H5 D (.dT (putK kvs k z)))) wi g tt vs

section
variable {X : Cx}
/-- d[(..)] = v by a comprehension -/
theorem put_dt {pins : List (Addr × Obj)} {σ : L2.St} {H : Hp} {s : Shared} {E : Value → Shared → Prop} {D b : Addr} {kvs : List (List Key × V)} {k : List Key} {v : V} {r : Value} {Q : Unit → Shared → Prop} (hu : X.A.units < cLine) (I : L2.Inv X pins σ H s)
    (hD : H D = some (.dT kvs)) (hb : H b = some (.tup (k.map kV))) (room : kvs.length < sizeLine) (rv : RelV v r) (q : ∀ s', L2.Inv X pins σ (upd H D (.dT (putK kvs k v))) s' → Q () s') : wpAny (model X.prog X.w) X.A (dictSet D (.ref b) r) Q E s := by
  obtain ⟨low, notSys, xs, rel, dict⟩ := dt_of I.hok hD
  have lowx : xs.length ≤ sizeLine := by rw [← Paired.length rel]; exact low
  have big : (putK kvs k v).length ≤ sizeLine := by
    have := length_putK kvs k v
    omega
  refine wpAny_dictSet_heap (knd := tupleKind (mixKind X.prog X.w)) (hsz := lowx) hu (key_of I.hok hb) dict fun h' dict' sb => q _ ?_
  obtain ⟨o, es, ep, ho, ex, hd, he, _, nd⟩ := dict'
  refine d_write I (by rw [hD]; exact True.intro) sb ⟨o, ho⟩ ⟨big, notSys, _, (rel.put k hb rv).keeps fun c ys hc => ?_, o, es, ep, ho, ex, hd, he, nd⟩
  have ne : c ≠ D := fun e => by rw [e, hD] at hc; cases hc
  rw [upd_ne ne]
  exact hc

theorem pe_setQ {elt tg iter : Expr} {ifs : List Expr} {scope : Scope} {own : List (PySem.Str × Nat)} {pos : Pos} {wi : TI} {g : TG} {tt : TT} {te : TE} (hc : X.calm = true) (hN : X.N.Nodup) (hi : PI X tg iter wi) (ok : BlkOk X.N X.env.scope scope own)
    (hg : ∀ (s : Shared) (H : Hp) (C : Addr) (cl : List (PySem.Str × Addr)) (fp : List Addr), PG (X.blk s H scope (compEnvC scope cl C X.env) fp) tg g) (ht : ∀ (s : Shared) (H : Hp) (C : Addr) (cl : List (PySem.Str × Addr)) (fp : List Addr), PTs (X.blk s H scope (compEnvC scope cl C X.env) fp) ifs tt)
    (he : ∀ (s : Shared) (H : Hp) (C : Addr) (cl : List (PySem.Str × Addr)) (fp : List Addr), PE (X.blk s H scope (compEnvC scope cl C X.env) fp) elt te) (hs : ∀ x, foldedSetIterable iter X.env x = pure x := by intro _; rfl) :
    PE X (.SetComp elt [⟨tg, iter, ifs, 0⟩] scope pos) (tSetQ X.prog X.w wi g tt te (own.map (·.2))) := by
  constructor
  intro pins s σ H Q I h
  rw [PpSet.eval_SetComp]
  refine gather (o0 := newbie X.w) hc hN I hi ok rfl (fun s Q q => PpSet.newSet_ok q) (fun s H I' => ok_setQO (setQ_new (Heap.get?_push_size _ rfl))) hg ht ?_ (fun it acc ce R s4 a b => PpSet.codeAny_compStart_set a b) hs h ?_
  · intro s3 H3 C cl fp it D Iv R turns n s4 i4
    refine PpSet.compLoopS_any Iv (fun n s5 i5 => thnF (turns n s5 i5) fun r s6 h6 => ?_) n i4
    cases r with
    | none => exact h6
    | some v =>
      refine thnF h6 fun _ s7 h7 => thnF h7 fun _ s8 h8 => thnF h8 fun b s9 ⟨pl, σ9, H9, Nx, I9, q9, next⟩ => ?_
      cases b with
      | false => exact next s9 H9 I9 q9
      | true =>
        refine thnF ((he s3 H3 C cl fp).run pl s9 σ9 H9 _ I9 q9) fun z s10 ⟨y, H10, I10, r10, k, S, m, ey, at10, room, nx⟩ => ?_
        subst ey
        exact call_add (get_setQ I10 at10) (is_key r10) room fun h' sb R' => next _ _ (wrote I10 at10 sb R') nx
  · intro D C s' m H' I' q ns f
    refine ⟨m, ns, fun h2 sb => ?_⟩
    obtain ⟨f0, f1, f2, f3, f4, f5⟩ := f
    exact ⟨.ref D, H', I'.turned (t' := s'.toks) (fun b o hb e => (sb.2 b hb).trans e) f0 f1 f3 f4 f5, rfl, q⟩

theorem pe_dcT {kx vx tg iter : Expr} {ifs : List Expr} {scope : Scope} {own : List (PySem.Str × Nat)} {pos : Pos} {wi : TI} {g : TG} {tt : TT} {tk tv : TE} (hc : X.calm = true) (hu : X.A.units < cLine) (hN : X.N.Nodup) (hi : PI X tg iter wi) (ok : BlkOk X.N X.env.scope scope own)
    (hg : ∀ (s : Shared) (H : Hp) (C : Addr) (cl : List (PySem.Str × Addr)) (fp : List Addr), PG (X.blk s H scope (compEnvC scope cl C X.env) fp) tg g) (ht : ∀ (s : Shared) (H : Hp) (C : Addr) (cl : List (PySem.Str × Addr)) (fp : List Addr), PTs (X.blk s H scope (compEnvC scope cl C X.env) fp) ifs tt)
    (hk : ∀ (s : Shared) (H : Hp) (C : Addr) (cl : List (PySem.Str × Addr)) (fp : List Addr), PE (X.blk s H scope (compEnvC scope cl C X.env) fp) kx tk)
    (he : ∀ (s : Shared) (H : Hp) (C : Addr) (cl : List (PySem.Str × Addr)) (fp : List Addr), PE (X.blk s H scope (compEnvC scope cl C X.env) fp) vx tv) (hs : ∀ x, foldedSetIterable iter X.env x = pure x := by intro _; rfl) :
    PE X (.DictComp kx vx [⟨tg, iter, ifs, 0⟩] scope pos) (tDcT wi g tt tk tv (own.map (·.2))) := by
  constructor
  intro pins s σ H Q I h
  rw [arm_eval_DictComp]
  refine gather (o0 := { cls := .type "dict", data := .dict #[] }) hc hN I hi ok rfl (fun s Q q => wpAny_newObj_type q) (fun s H I' => dt_empty s.heap I'.big) hg ht ?_ (fun it acc ce R s4 a b => codeAny_compStart_dict a b) hs h ?_
  · intro s3 H3 C cl fp it D Iv R turns n s4 i4
    refine compLoop_anyD Iv (fun n s5 i5 => thnF (turns n s5 i5) fun r s6 h6 => ?_) n i4
    cases r with
    | none => exact h6
    | some v =>
      refine thnF h6 fun _ s7 h7 => thnF h7 fun _ s8 h8 => thnF h8 fun b s9 ⟨pl, σ9, H9, Nx, I9, q9, next⟩ => ?_
      cases b with
      | false => exact next s9 H9 I9 q9
      | true =>
        refine thnF ((hk s3 H3 C cl fp).run pl s9 σ9 H9 _ I9 q9) fun z s10 ⟨y, H10, I10, r10, q10⟩ => ?_
        refine thnF ((he s3 H3 C cl fp).run pl s10 σ9 H10 _ I10 q10) fun z2 s11 ⟨y2, H11, I11, r11, kvs, k, b, ey, atb, atD, room, nx⟩ => ?_
        subst ey
        obtain rfl : z = Value.ref b := r10
        exact put_dt (X := X.blk s3 H3 scope (compEnvC scope cl C X.env) fp) hu I11 atD atb room r11 fun s12 I12 => next s12 _ I12 nx
  · intro D C s' m H' I' q ns f
    refine ⟨m, ns, fun h2 sb => ?_⟩
    obtain ⟨f0, f1, f2, f3, f4, f5⟩ := f
    exact ⟨.ref D, H', I'.turned (t' := s'.toks) (fun b o hb e => (sb.2 b hb).trans e) f0 f1 f3 f4 f5, rfl, q⟩
end

/-- the turns over a tuple -/
abbrev TurnsOver (K : PySem.W.Frag) (a : Addr) (g : TG) (tt : TT) (vs : List Nat) (σ : L2.St) (body : L2.St → Hp → (Hp → Prop) → Prop) (H0 : Hp) (Qd : Hp → Prop) : Prop :=
  ∃ W : Nat → Nat → Hp → Prop, (∃ m, W 0 m H0) ∧ ∀ i m H, W i m H → ((Itt K a).stop i H ∧ Qd H) ∨
    ((Itt K a).go i H ∧ ∃ Nx : Hp → Prop, (∀ H', Nx H' → ∃ m', m' < m ∧ W (i + 1) m' H') ∧ ∀ x H', (Itt K a).yld i H x H' → g x (wipe σ vs) H' fun σ2 H3 => wipe σ2 vs = wipe σ vs ∧ tt σ2 H3 fun b H4 => if b = true then body σ2 H4 Nx else Nx H4)
/-- that stays -/
theorem gather_tup {K : PySem.W.Frag} {a : Addr} {xs : List V} {body : L2.St → Hp → (Hp → Prop) → Prop} {g : TG} {tt : TT} {vs : List Nat} {σ : L2.St} {H0 : Hp} {Qd : Hp → Prop} (Pv : Nat → Hp → Prop) (h0 : Pv 0 H0) (hl : ∀ i H, i ≤ xs.length → Pv i H → SqT K H a xs)
    (hs : ∀ i x H, xs[i]? = some x → Pv i H → g x (wipe σ vs) H fun σ2 H3 => wipe σ2 vs = wipe σ vs ∧ tt σ2 H3 fun b H4 => if b = true then body σ2 H4 (Pv (i + 1)) else Pv (i + 1) H4) (hd : ∀ H, Pv xs.length H → Qd H) : TurnsOver K a g tt vs σ body H0 Qd := by
  refine ⟨fun i m H => i + m = xs.length ∧ Pv i H, ⟨xs.length, Nat.zero_add _, h0⟩, fun i m H ⟨e, p⟩ => ?_⟩
  have here := hl i H (by omega) p
  cases m with
  | zero =>
    obtain rfl : i = xs.length := by omega
    exact .inl ⟨⟨xs, here, Nat.le_refl _⟩, hd H p⟩
  | succ m =>
    have lt : i < xs.length := by omega
    refine .inr ⟨⟨xs, xs[i], here, List.getElem?_eq_getElem lt⟩, Pv (i + 1), fun H' p' => ⟨m, Nat.lt_succ_self m, by omega, p'⟩, fun x H' y => ?_⟩
    rw [y.1]
    exact hs i x H (y.2 xs here) p
theorem setq_tup {P : Program} {w : World} {K : PySem.W.Frag} {a : Addr} {xs : List V} {g : TG} {tt : TT} {te : TE} {vs : List Nat} {σ : L2.St} {H1 : Hp} {D : Addr} {Qd : Hp → Prop} (Pv : Nat → Hp → Prop) (h0 : Pv 0 (upd H1 D (SetQO P w D (fun _ => false) 0))) (hl : ∀ i H, i ≤ xs.length → Pv i H → SqT K H a xs)
    (hs : ∀ i x H, xs[i]? = some x → Pv i H → g x (wipe σ vs) H fun σ2 H3 => wipe σ2 vs = wipe σ vs ∧ tt σ2 H3 fun b H4 => if b = true then te σ2 H4 fun y H5 => ∃ (k : Key) (S : Key → Bool) (n : Nat), y = kV k ∧ H5 D = some (SetQO P w D S n) ∧ n + 1 < scanBound ∧
      Pv (i + 1) (upd H5 D (SetQO P w D (fun j => S j || decide (j = k)) (if S k = true then n else n + 1))) else Pv (i + 1) H4) (hd : ∀ H, Pv xs.length H → Qd H) :
    TurnsOver K a g tt vs σ (fun σ H Nx => te σ H fun y H4 => ∃ (k : Key) (S : Key → Bool) (n : Nat), y = kV k ∧ H4 D = some (SetQO P w D S n) ∧ n + 1 < scanBound ∧
      Nx (upd H4 D (SetQO P w D (fun j => S j || decide (j = k)) (if S k = true then n else n + 1)))) (upd H1 D (SetQO P w D (fun _ => false) 0)) Qd := gather_tup Pv h0 hl hs hd
theorem dct_tup {K : PySem.W.Frag} {a : Addr} {xs : List V} {g : TG} {tt : TT} {tk tv : TE} {vs : List Nat} {σ : L2.St} {H1 : Hp} {D : Addr} {Qd : Hp → Prop} (Pv : Nat → Hp → Prop) (h0 : Pv 0 (upd H1 D (.dT []))) (hl : ∀ i H, i ≤ xs.length → Pv i H → SqT K H a xs)
    (hs : ∀ i x H, xs[i]? = some x → Pv i H → g x (wipe σ vs) H fun σ2 H3 => wipe σ2 vs = wipe σ vs ∧ tt σ2 H3 fun b H4 => if b = true then tk σ2 H4 fun y H5 => tv σ2 H5 fun z H6 => ∃ (kvs : List (List Key × V)) (k : List Key) (b : Addr), y = .ref b ∧ H6 b = some (.tup (k.map kV)) ∧ H6 D = some (.dT kvs) ∧ kvs.length < sizeLine ∧
      Pv (i + 1) (upd H6 D (.dT (putK kvs k z))) else Pv (i + 1) H4) (hd : ∀ H, Pv xs.length H → Qd H) :
    TurnsOver K a g tt vs σ (fun σ H Nx => tk σ H fun y H4 => tv σ H4 fun z H5 => ∃ (kvs : List (List Key × V)) (k : List Key) (b : Addr), y = .ref b ∧ H5 b = some (.tup (k.map kV)) ∧ H5 D = some (.dT kvs) ∧ kvs.length < sizeLine ∧
      Nx (upd H5 D (.dT (putK kvs k z)))) (upd H1 D (.dT [])) Qd := gather_tup Pv h0 hl hs hd
end MX
end
section
/-! enumerate(xs), xs a list or a tuple. -/
namespace MX
open PySem PySem.Spec PyProof.Rows L2 PySem.W

/-- the tuple at a as it stands at each turn, each item in a new pair -/
def IteT (K : PySem.W.Frag) (a : Addr) : It where
  go i H := ∃ (xs : List V) (x : V), SqT K H a xs ∧ xs[i]? = some x
  yld i H v H' := ∃ T x, v = .ref T ∧ H T = none ∧ H' = upd H T (.tup [.int (i : Nat), x]) ∧ ∀ xs, SqT K H a xs → xs[i]? = some x
  stop i H := ∃ xs : List V, SqT K H a xs ∧ xs.length ≤ i
def iEnumS (K : PySem.W.Frag) (ta : TA) : TI := fun σ H R => ta σ H fun vs H1 => ∃ a xs, vs = [.ref a] ∧ ((SqL K H1 a xs ∧ R (Ite K a) H1) ∨ (SqT K H1 a xs ∧ R (IteT K a) H1))

set_option maxHeartbeats 1000000 in
/-- a new enumerate over what can begin -/
theorem enum_made {v : Value} {o : Obj} {Hh : Heap → Prop} (B : Begins v o Hh) : Meets (Builtin.«enumerate.__new__» ⟨[.type "enumerate", v], []⟩) (fun _ R s => Hh s.heap ∧
    R (.ok (.ret (.ref (s.heap.push o).objs.size))) { s with heap := (s.heap.push o).push { cls := .type "enumerate", data := .fields #[.none, .bool false, .ref s.heap.objs.size, rawInt 0, .none, .none] } }) := by
  refine Meets.of_wp fun P w A R s ⟨ready, fin⟩ => ?_
  obtain ⟨heap, gens, drawn, toks, os⟩ := s
  have sub := sub_enumerate
  have begin_ : ∀ {A' : Around} {E : Value → Shared → Prop} {Q : Value → Shared → Prop}, Q (.ref heap.objs.size) ⟨heap.push o, gens, drawn, toks, os⟩ → wpAny (model P w) A' (pyIter v) Q E ⟨heap, gens, drawn, toks, os⟩ :=
    fun z => B.iter P w _ _ ⟨heap, gens, drawn, toks, os⟩ _ ready z
  wp_walk using begin_
  refine wpAny_stack_any fun frames => wpAny_pure ?_
  split
  · rename_i c _ _ _ _ _
    rcases Bool.eq_false_or_eq_true (c == Value.type "enumerate") with y | y
    all_goals
      rw [y]
      wp_walk using begin_
      exact ⟨_, rfl, fin⟩
  · wp_walk using begin_
    exact ⟨_, rfl, fin⟩
section
variable {P : Program} {w : World} {A : Around} {E : Value → Shared → Prop} {s : Shared}
theorem enum_call {v : Value} {o : Obj} {Hh : Heap → Prop} {Q : Value → Shared → Prop} (B : Begins v o Hh) (ready : Hh s.heap)
    (q : ∀ h', IsEnum h' (s.heap.objs.size + 1) s.heap.objs.size 0 .none → h'.get? s.heap.objs.size = some o → (∀ b u, s.heap.get? b = some u → h'.get? b = some u) → Q (.ref (s.heap.objs.size + 1)) { s with heap := h' }) :
    wpAny (model P w) A (call (.type "enumerate") [v]) Q E s := by
  have size1 : (s.heap.push o).objs.size = s.heap.objs.size + 1 := Heap.size_push ..
  have en : IsEnum ((s.heap.push o).push { cls := .type "enumerate", data := .fields #[.none, .bool false, .ref s.heap.objs.size, rawInt 0, .none, .none] }) (s.heap.objs.size + 1) s.heap.objs.size 0 .none := by
    have z := Heap.get?_push_size (s.heap.push o) (o := { cls := .type "enumerate", data := .fields #[.none, .bool false, .ref s.heap.objs.size, rawInt 0, .none, .none] }) rfl
    rw [size1] at z
    exact z
  refine callType_new F.called_enumerate (by decide) (F.typeCall_enumerate_1 v) (F.newCall_enumerate_1 v) (fun obj => F.args_object_init_2 obj v) F.entry_enumerate_new (enum_made B) ⟨ready, ?_⟩
  show _ ∧ _
  rw [size1]
  exact ⟨⟨_, en, rfl⟩, q _ en (Heap.get?_push_of_some _ (Heap.get?_push_size _ B.free)) fun b u e => Heap.get?_push_of_some _ (Heap.get?_push_of_some _ e)⟩
end

/-- its turns, over a tuple -/
theorem turn_enumT {P : Program} {w : World} {K : PySem.W.Frag} {elts : List Expr} {kk : Nat} {tpos : Pos} (a e it : Addr) :
    Turn P w K (.Tuple elts kk tpos) (IteT K a) [e, it] e (fun i h => (∃ old, IsEnum h e it ((i : Nat) : Int) old) ∧ h.IsTupleIter it a i ∧ e ≠ it ∧ a ≠ e ∧ a ≠ it) where
  mem := List.mem_cons_self
  obj := by
    rintro i h ⟨⟨old, en⟩, ⟨o, ho, _, hd⟩, _⟩ b hb
    rcases List.mem_cons.mp hb with rfl | hb
    · exact ⟨_, en, fun v z => nomatch z⟩
    · rw [List.mem_singleton.mp hb]
      exact ⟨o, ho, fun v z => by rw [hd] at z; cases z⟩
  keep := by
    rintro i h h' ⟨⟨old, en⟩, ti, more⟩ k
    exact ⟨⟨old, k e List.mem_cons_self _ en⟩, ti.at fun o z => k it (List.mem_cons_of_mem _ List.mem_cons_self) o z, more⟩
  item := by
    rintro X rfl rfl rfl hc i pins s σ H E I ok ⟨⟨old, en⟩, ti, ne, ne1, ne2⟩ ⟨xs, x, seq, at_⟩
    obtain ⟨its, rv, tup, _⟩ := I.tuple seq
    obtain ⟨u, hu, ru⟩ := rv.get at_
    have lt1 : e < s.heap.objs.size := Heap.lt_size en
    have lt2 : it < s.heap.objs.size := by
      obtain ⟨o, ho, _⟩ := ti
      exact Heap.lt_size ho
    have few : i < its.toArray.size := by
      rw [List.size_toArray]
      exact (List.getElem?_eq_some_iff.mp hu).1
    have out : e ∉ [it, a] := by
      rw [List.mem_cons, List.mem_singleton]
      rintro (z | z)
      · exact ne z
      · exact ne1 z.symm
    refine wpAny_pyNext_enum_itemD (Draws.tuple (A := X.A.in1) (I.ok.hd hc) it a ne2 its.toArray) en ⟨ti, tup⟩ few ne out fun v h1 tk pv out1 ⟨ti1, _⟩ made size1 old1 => ?_
    have ev : v = u := by
      have z : its.toArray[i]? = some v := pv
      rw [List.getElem?_toArray, hu] at z
      exact (Option.some.inj z).symm
    subst ev
    refine ⟨_, rfl, wpAny_letOwnedTupleGo_enum (s := { s with heap := h1, toks := tk + 1 }) out1 fun h2 en2 sb => ?_⟩
    have ne3 : s.heap.objs.size ≠ e := Nat.ne_of_gt lt1
    have made2 : h2.get? s.heap.objs.size = some { cls := .type "tuple", data := .seq #[.int i tk, v] } := (sb.2 _ ne3).trans made
    have new : ObjOk X.prog X.w (upd H s.heap.objs.size (.tup [.int (i : Nat), x])) h2 s.heap.objs.size (.tup [.int (i : Nat), x]) := by
      refine ⟨?_, [.int i tk, v], .cons ⟨tk, rfl⟩ (.cons ru .nil), ⟨_, made2, rfl, 0, rfl⟩⟩
      show 2 ≤ sizeLine
      rw [sizeLine_eq]
      omega
    have I1 : L2.Inv X pins σ (upd H s.heap.objs.size (.tup [.int (i : Nat), x])) { s with heap := h2, toks := tk + 1 } := by
      refine I.turnedNew (ch := [e, it]) (fun b o nb hb => ?_) ok (Nat.le_refl _) new
      have b1 : b ≠ e := fun z => nb (by rw [z]; exact List.mem_cons_self)
      have b2 : b ≠ it := fun z => nb (by rw [z]; exact List.mem_cons_of_mem _ List.mem_cons_self)
      exact (sb.2 b b1).trans (old1 b o b1 b2 hb)
    refine ⟨.ref s.heap.objs.size, _, I1, rfl, ⟨_, x, rfl, I.hok.fresh (Nat.le_refl _), rfl, fun ys hy => ?_⟩, ⟨⟨v, ?_⟩, ti1.at fun o z => (sb.2 it (Ne.symm ne)).trans z, ne, ne1, ne2⟩, fun b hb => ?_⟩
    · rw [I.tuple_inj hy seq]
      exact at_
    · rw [show ((i + 1 : Nat) : Int) = (i : Int) + 1 by omega]
      exact en2
    · have lb : b < s.heap.objs.size := by
        rcases List.mem_cons.mp hb with z | z
        · rw [z]; exact lt1
        · rw [List.mem_singleton.mp z]; exact lt2
      rw [upd_ne (Nat.ne_of_lt lb)]
      exact (ok b hb).1
  done := by
    rintro X rfl rfl rfl hc i pins s σ H E I ok ⟨⟨old, en⟩, ti, ne, ne1, ne2⟩ ⟨xs, seq, le⟩
    obtain ⟨its, rv, tup, _⟩ := I.tuple seq
    have len := rv.length
    obtain ⟨f0, f1, f2, f3, f4, f5⟩ := ok it (List.mem_cons_of_mem _ List.mem_cons_self)
    have past : its.toArray[i]? = none := by
      rw [List.getElem?_toArray]
      exact List.getElem?_eq_none (by omega)
    have over : Draws X.prog X.w X.A.in1 it [it, a] i (fun _ _ => False) (fun j h => j = i ∧ h.IsTupleIter it a j ∧ h.IsTuple a its.toArray) := by
      refine ⟨fun j h ⟨_, ⟨o, ho, _⟩, _⟩ => ⟨o, ho⟩, fun j h h' ⟨ej, t1, t2⟩ k => ⟨ej, t1.at fun o z => k it (by simp) o z, t2.at fun o z => k a (by simp) o z⟩, fun j s Q E lt ⟨ej, _⟩ _ => absurd lt (by omega), fun s Q E ⟨_, t1, t2⟩ z => ?_⟩
      exact wpAny_nextOf_tuple_end (I.ok.hd hc) t1 t2 past z
    exact wpAny_pyNext_enum_endD over en ⟨rfl, ti, tup⟩ fun h' eb => ⟨rfl, I.turned (t' := s.toks) (fun b o nb z => eb b o nb z) f0 f1 f3 f4 f5⟩
  self := fun A i s Q E st z => by
    obtain ⟨⟨_, en⟩, _⟩ := st
    exact wpAny_pyIter_enum en z

/-- for i, x in enumerate(xs) -/
theorem pi_enumS {X : Cx} {e : Expr} {ta : TA} {p pos tpos : Pos} {elts : List Expr} {kk : Nat} (hg : Gl X "enumerate") (hm : X.mg "enumerate" = none) (ha : PA X [e] ta) (hs : starEach [e] X.env = [(false, eval e X.env)] := by rfl) :
    PI X (.Tuple elts kk tpos) (.Call (.Name "enumerate" p) [e] [] pos) (iEnumS X.K ta) := by
  constructor
  intro pins s σ H R I h
  refine Call_ (ld_blt I hg hm boot_enumerate (PyProof.Rows.callWith_type1 ?_ hs rfl))
  refine thn (ha.run pos pins s σ H _ I h) fun us s1 ⟨vs, H1, I1, r1, a, xs, ev, which⟩ => ?_
  subst ev
  rw [Vals.ref1 r1]
  have two : ∀ b ∈ [s1.heap.objs.size + 1, s1.heap.objs.size], FpOk X pins H1 b := fun b hb => by
    have big : s1.heap.objs.size ≤ b := by
      rcases List.mem_cons.mp hb with z | z
      · rw [z]; exact Nat.le_succ _
      · rw [List.mem_singleton.mp z]; exact Nat.le_refl _
    exact I1.fpOk big (I1.hok.fresh big)
  rcases which with ⟨seq, q⟩ | ⟨seq, q⟩
  · obtain ⟨its, rv, pl, _⟩ := I1.list seq
    refine enum_call (begins_list a its.toArray) pl.isList fun h' en made old => wpAny_pyIter_enum en ?_
    exact ⟨_, _, _, _, H1, rfl, I1.kept (t' := s1.toks) old, turn_enum a (s1.heap.objs.size + 1) s1.heap.objs.size, ⟨⟨_, en⟩, ⟨_, made, rfl, rfl⟩, Nat.succ_ne_self _⟩, two, q⟩
  · obtain ⟨its, rv, tup, _⟩ := I1.tuple seq
    have lt : a < s1.heap.objs.size := by
      obtain ⟨o, ho, _⟩ := tup
      exact Heap.lt_size ho
    refine enum_call (begins_tuple a its.toArray) tup fun h' en made old => wpAny_pyIter_enum en ?_
    exact ⟨_, _, _, _, H1, rfl, I1.kept (t' := s1.toks) old, turn_enumT a (s1.heap.objs.size + 1) s1.heap.objs.size, ⟨⟨_, en⟩, ⟨_, made, rfl, rfl⟩, Nat.succ_ne_self _, Nat.ne_of_lt (Nat.lt_succ_of_lt lt), Nat.ne_of_lt lt⟩, two, q⟩
end MX
end
section
/-! len(o), o != p of own instances; making one and a method of one where a try stands around. -/
namespace L2
open PySem PySem.Spec PyProof.Rows PySem.W

section
variable {X : Cx} {CX : CXT} {k : Nat} {f C : Addr} {fd : FuncData} {ps : List PySem.Str} {sp : Sp} {E : XK} {pins : List (Addr × Obj)} {σ : L2.St} {H : Hp} {s : Shared} {Q : VK} {us : List Value} {vs : List V} {A : Around}

/-- an own function called from within a built-in one -/
theorem run_sub (sb : Sub X k A) (F : FnOk X.prog X.w X.K X.mg X.base CX k f fd ps sp) (hb : Binds X.K fd ps []) (hx : PassesAt CX X σ E) (I : Inv X pins σ H s) (r : Vals vs us) (h : sp vs H Q E) :
    wpAny (model X.prog X.w) A (call (.ref f) us) (EP X pins σ Q) X.xe s := by
  have env : Env0 X.prog X.w X.K X.mg X.base A X.stack s H := { I.env0 with frames := sb.fr.trans I.env0.frames }
  have bound := hb s us I.kIn (by rw [List.append_nil, ← r.length]; exact F.len vs H Q E h)
  rw [List.append_nil] at bound
  refine wpAny_call (codeAny_mono (F.run A X.stack s H ⟨us, []⟩ us vs Q E sb.room env bound r h) fun res s' z => ?_)
  match res, z with
  | .error e, z => exact hx pins H s e s' I z
  | .ok (.ret u), z => exact I.after z
theorem sub_one (hr : Room (k + 1) X.A) : Sub X k X.A.in1 := ⟨hr.in1, rfl⟩

/-- the instance's class, as the model looks it up -/
theorem inst_at (I : Inv X pins σ H s) {a dx : Addr} {fs : List (PySem.Str × V)} (e : H a = some (.ins C dx fs)) : ∃ o od, InstAt s.heap a o C od := by
  obtain ⟨m, look, _⟩ := ins_get I.hok e
  obtain ⟨od, at_, _⟩ := look.look
  exact ⟨_, od, at_⟩

/-! ### len -/
def rLenOwn (C : Addr) (sp : Sp) : List V → Hp → VK → Prop := fun xs H Q => ∃ (p dx : Addr) (fs : List (PySem.Str × V)), xs = [V.ref p] ∧ H p = some (.ins C dx fs) ∧
  sp [V.ref p] H (fun v H' => ∃ n : Int, v = .int n ∧ 0 ≤ n ∧ n < 2 ^ 63 ∧ Q (.int n) H') E0
theorem call_lenOwn (find : findIn X.K (.ref C) "__len__" = some (some (.ref f))) (isF : isFn X.K (.ref f) = true) (F : FnOk X.prog X.w X.K X.mg X.base CX k f fd ps sp) (hb : Binds X.K fd ps []) (hr : Room (k + 1) X.A) (hx : Passes CX X E0) :
    CallR X (.builtin "len") (rLenOwn C sp) := by
  intro pins s σ H xs us Q I r h
  obtain ⟨p, dx, fs, rfl, hp, run⟩ := h
  obtain ⟨o, od, at_⟩ := inst_at I hp
  rw [Vals.ref1 r]
  refine Calls.call_function_entry kind_len plain_len entry_len (args_len1 (.ref p)) ?_
  unfold Builtin.«len»
  refine wpAny_bind (m := oneArg "len" ⟨[Value.ref p], []⟩) (wpAny_pure ?_)
  refine wpAny_bind (m := callSpecial? (Value.ref p) "__len__") (special_fn I.kIn at_ find (beq_iff_eq.mp isF) ?_)
  refine wpAny_mono (run_sub (sub_one hr) F hb (fun pins H s e s' => hx pins σ H s e s') I (.cons (show L2.RelV (V.ref p) (Value.ref p) from rfl) .nil) run) (fun v s1 ⟨y, H1, I1, rel, n, ey, low, high, q⟩ => ?_) fun _ _ z => z
  subst ey
  obtain ⟨t, rfl⟩ := rel
  refine wpAny_bind (wpAny_holding (wpAny_pure (wpAny_bind (wpAny_letGo ?_))))
  refine wp_if_neg (by omega) ?_
  try refine wpAny_bind (wpAny_pure ?_)
  refine wp_if_neg (by omega) ?_
  try refine wpAny_bind (wpAny_pure ?_)
  unfold retInt
  exact wpAny_bind (wpAny_mkInt (wpAny_pure ⟨_, rfl, ⟨.int n, H1, I1.tok _, ⟨_, rfl⟩, q⟩⟩))

/-! ### != -/
/-- a class with an own == and the built-in != -/
structure NeTxt (K : PySem.W.Frag) (C f : Addr) : Prop where
  eq : findIn K (.ref C) "__eq__" = some (some (.ref f))
  fn : isFn K (.ref f) = true
  ne : findIn K (.ref C) "__ne__" = some (some (.builtin "object.__ne__"))
  ob : mroIn K C (.type "object") = some true
def rNeOwn (C : Addr) (sp : Sp) : R2 := fun x y H Q => ∃ (p dp : Addr) (fp : List (PySem.Str × V)) (q dq : Addr) (fq : List (PySem.Str × V)), x = .ref p ∧ y = .ref q ∧ H p = some (.ins C dp fp) ∧ H q = some (.ins C dq fq) ∧
  sp [.ref p, .ref q] H (fun v H' => ∃ b : Bool, v = .bl b ∧ Q (.bl (!b)) H') E0
theorem bound_ne {M : Model} {B : Value → Shared → Prop} {K : PySem.W.Frag} {x : Addr} {o : Obj} {od : Option Obj} {args : List Value} {R : Option Value → Shared → Prop} (T : NeTxt K C f) (inK : K.In s.heap) (at_ : InstAt s.heap x o C od)
    (run : wpAny M A (call (.builtin "object.__ne__") (.ref x :: args)) (fun v => R (some v)) B s) : wpAny M A (callSpecialIfBound? (.ref x) "__ne__" args) R B s := by
  have go : wpAny M A (call (.builtin "object.__ne__") ([Value.ref x] ++ args) >>= fun v => pure (some v)) R B s := wpAny_bind (wpAny_mono run (fun _ _ z => wpAny_pure z) fun _ _ z => z)
  unfold callSpecialIfBound? bindSpecialIfBound?
  refine wpAny_holding (wpAny_bind (wpAny_bind ?_))
  refine wpAny_bind (at_.type.here ((looks_findIn inK T.ne).here ?_))
  refine wpAny_bind (wpAny_askSetting (wpAny_ite ?_))
  split
  · exact wpAny_bind (wpAny_of_eq (PySem.F.cmp_object.ne.bind (.ref x)) (wpAny_pure go))
  · exact wpAny_tryCatch (wpAny_bind (wpAny_of_eq (PySem.F.cmp_object.ne.bind (.ref x)) (wpAny_pure go)))
theorem op_neOwn (T : NeTxt X.K C f) (F : FnOk X.prog X.w X.K X.mg X.base CX k f fd ps sp) (hb : Binds X.K fd ps []) (hr : Room (k + 1) X.A) (hx : Passes CX X E0) : OpR X (compareOp .NotEq) (rNeOwn C sp) := by
  intro pins s σ H x y v u R I rx ry h
  obtain ⟨p, dp, fp, q, dq, fq, rfl, rfl, hp, hq, run⟩ := h
  obtain rfl : v = Value.ref p := rx
  obtain rfl : u = Value.ref q := ry
  obtain ⟨o, od, at_⟩ := inst_at I hp
  obtain ⟨o2, od2, at2⟩ := inst_at I hq
  have low1 : X.A.in1.units < cLine := hr.in1.units0
  have inner : wpAny (model X.prog X.w) X.A.in1 (Builtin.«object.__ne__» ⟨[.ref p, .ref q], []⟩) (fun fin s' => ∃ b H', fin = .done (.ret (.bool (!b))) ∧ Inv X pins σ H' s' ∧ R (.bl (!b)) H') X.xe s := by
    unfold Builtin.«object.__ne__»
    refine wpAny_bind (m := slotArgs "__ne__" 1 _) (wpAny_pure ?_)
    refine wpAny_bind (m := cRoomFor _ _) (wpAny_cRoomFor low1 ?_)
    refine wpAny_bind (m := callSpecialIfBound? (.ref p) "__eq__" [.ref q]) (ifBound_K I.kIn at_ T.eq T.fn ?_)
    refine wpAny_mono (run_sub (sub_one hr) F hb (fun pins H s e s' => hx pins σ H s e s') I (.cons (show L2.RelV (V.ref p) (Value.ref p) from rfl) (.cons (show L2.RelV (V.ref q) (Value.ref q) from rfl) .nil)) run) (fun v s1 ⟨y, H1, I1, rel, b, ey, z⟩ => ?_) fun _ _ z => z
    subst ey
    obtain rfl : v = Value.bool b := rel
    exact wpAny_bind (wpAny_truthy_bool (wpAny_pure ⟨b, H1, rfl, I1, z⟩))
  have call_ : wpAny (model X.prog X.w) X.A (call (.builtin "object.__ne__") [.ref p, .ref q]) (fun v s' => ∃ b H', v = .bool (!b) ∧ Inv X pins σ H' s' ∧ R (.bl (!b)) H') X.xe s := by
    refine wpAny_call (codeAny_call_builtin PySem.F.cmp_object.ne.plain PySem.F.cmpEntry_ne (check_slot PySem.F.cmpKind_ne PySem.F.cmpSplit_ne (at_.type.andThen (looks_mroIn I.kIn T.ob)) (PySem.F.cmpArgs_ne _ _) ?_))
    refine wpAny_mono inner (fun fin s' ⟨b, H', e, I', z⟩ => ?_) fun _ _ z => z
    subst e
    exact ⟨b, H', rfl, I', z⟩
  unfold compareOp richCompare
  simp only [oneThing_ref]
  refine wpAny_holding (wpAny_bind (wpAny_cRoomFor hr.units0 ?_))
  rw [cmpInfo_NotEq]
  dsimp only
  refine wpAny_bind (at_.type.here (wpAny_bind (at2.type.here ?_)))
  have same_ : ¬ (Value.ref C != Value.ref C) = true := by simp
  refine wp_if_neg same_ (wpAny_bind (wpAny_pure ?_))
  refine wp_if_neg (by decide) ?_
  try refine wpAny_bind (wpAny_pure ?_)
  refine wpAny_bind (m := tryCompare (.ref p) _ (.ref q)) ?_
  unfold tryCompare
  refine wpAny_bind (bound_ne T I.kIn at_ (wpAny_mono call_ (fun v s' ⟨b, H', e, I', z⟩ => ?_) fun _ _ z => z))
  subst e
  exact wpAny_pure (wpAny_pure ⟨.bl (!b), H', I', rfl, z⟩)

/-! ### where a try stands around -/
variable {Es : L2.St → XK} {x m : PySem.Str} {p pos apos : Pos} {e o : Expr} {es : List Expr} {ta : TE} {t : TA}
def tMakeS (C : Addr) (sp : Sp) (Es : L2.St → XK) (t : TA) : TE := fun σ H Q => tMake C sp [] (Es σ) t σ H Q
theorem made_run (M : Mk X.K C f) (F : FnOk X.prog X.w X.K X.mg X.base CX k f fd ps sp) (hr : Room (k + 1) X.A) (hb : Binds X.K fd ps []) (hx : PassesAt CX X σ E) (I : Inv X pins σ H s) (r : Vals vs us)
    (h : ∀ x dx, H x = none → H dx = none → dx ≠ x → sp (.ref x :: (vs ++ [])) (upd (upd H dx (.own x)) x (.ins C dx [])) (fun v H2 => v = .non ∧ Q (.ref x) H2) E) : wpAny (model X.prog X.w) X.A (call (.ref C) us) (EP X pins σ Q) X.xe s := by
  have I2 := Inv.made (C := C) I
  have run := h (s.heap.objs.size + 1) s.heap.objs.size (I.hok.fresh (Nat.le_succ _)) (I.hok.fresh (Nat.le_refl _)) (Nat.ne_of_lt (Nat.lt_succ_self _))
  rw [List.append_nil] at run
  have rel : Vals (V.ref (s.heap.objs.size + 1) :: vs) (Value.ref (s.heap.objs.size + 1) :: us) := .cons (show L2.RelV (V.ref (s.heap.objs.size + 1)) (Value.ref (s.heap.objs.size + 1)) from rfl) r
  have bound := hb _ (Value.ref (s.heap.objs.size + 1) :: us) I2.kIn (by rw [List.append_nil, ← rel.length]; exact F.len _ _ _ _ run)
  rw [List.append_nil] at bound
  have ran := F.run _ X.stack _ _ ⟨Value.ref (s.heap.objs.size + 1) :: us, []⟩ _ _ _ E (hr.make C us []) (I2.env0.make C us []) bound rel run
  refine wpAny_call (make_map (f := f) I.kIn M.makes M.init (beq_iff_eq.mp M.fn) (codeAny_mono ran fun res s' z => ?_))
  match res, z with
  | .error err, z => exact hx pins _ _ err s' I2 z
  | .ok (.ret u), z =>
    obtain ⟨v, H', I3, rv, rfl, q⟩ := I2.after z
    exact ⟨rv, ⟨V.ref (s.heap.objs.size + 1), H', I3, rfl, q⟩⟩
theorem pe_makeS (M : Mk X.K C f) (F : FnOk X.prog X.w X.K X.mg X.base CX k f fd ps sp) (hr : Room (k + 1) X.A) (hg : Gl X x) (hm : X.mg x = some (.ref C)) (hb : Binds X.K fd ps []) (hx : ∀ σ, PassesAt CX X σ (Es σ)) (ha : PA X (e :: es) t)
    (nodebug : (x == ("__debug__" : PySem.Str)) = false := by decide) (first : starEach (e :: es) X.env = (false, eval e X.env) :: starEach es X.env := by rfl) (nost : (backTo pos (starEach es X.env)).any (·.1) = false := by rfl) :
    PE X (.Call (.Name x p) (e :: es) [] pos) (tMakeS C sp Es t) := by
  constructor
  intro pins s σ H Q I h
  refine wpAny_Call_Name_kw (ld_glob I hg hm ?_ nodebug)
  refine callWith_K (h₀ := X.base) I.ok.mod.kin M.kp ?_ first nost
  exact thn (ha.run pos pins s σ H _ I h) fun us s1 ⟨vs, H1, I1, r, q⟩ => ⟨I1.kIn, made_run M F hr hb (hx σ) I1 r q⟩
def tMethT (C : Addr) (m : PySem.Str) (sp : Sp) (Es : L2.St → XK) (ta : TE) (t : TA) : TE := fun σ H Q => tMeth C m sp [] (Es σ) ta t σ H Q
theorem pe_methT {pl : Sem Bool} (he : PE X o ta) (c : Cls X.K C) (hm : Meth X.K C m f) (F : FnOk X.prog X.w X.K X.mg X.base CX k f fd ps sp) (hr : Room k X.A) (hb : Binds X.K fd ps []) (hx : ∀ σ, PassesAt CX X σ (Es σ)) (ha : PA X (e :: es) t)
    (first : starEach (e :: es) X.env = (false, eval e X.env) :: starEach es X.env := by rfl) (nost : (backTo pos (starEach es X.env)).any (·.1) = false := by rfl)
    (text : eval (.Call (.Attribute o m apos) (e :: es) [] pos) X.env = (do
      let ov ← eval o X.env
      standAt apos.atName
      let (f, first) ← holding [ov] (getMethod ov m pl)
      callWith pos f first (backTo pos (starEach (e :: es) X.env)) (backToKw pos (keywordEach [] X.env))) := by rfl) :
    PE X (.Call (.Attribute o m apos) (e :: es) [] pos) (tMethT C m sp Es ta t) := by
  constructor
  intro pins s σ H Q I h
  refine methodCall_KW (pl := pl) ?_ text
  refine thn (he.run pins s σ H _ I h) fun u s1 ⟨y, H1, I1, rel, a, dx, fs, ey, at_, none_, q⟩ => ?_
  subst ey
  obtain rfl : u = Value.ref a := rel
  refine getmeth_ok I1 at_ c hm none_ ?_
  refine callWith_K (first := [Value.ref a]) (h₀ := X.base) I.ok.mod.kin hm.kp ?_ first nost
  refine thn (ha.run pos pins s1 σ H1 _ I1 q) fun us s2 ⟨vs, H2, I2, r, q2⟩ => ⟨I2.kIn, ?_⟩
  replace q2 : sp (V.ref a :: (vs ++ [])) H2 Q (Es σ) := q2
  rw [List.append_nil] at q2
  exact run_fnS (us := Value.ref a :: us) (vs := V.ref a :: vs) F hr hb (hx σ) I2 (.cons (show L2.RelV (V.ref a) (Value.ref a) from rfl) r) q2
end
end L2
end
section
/-! An own error whose __init__ calls its base's by super() with an f-string and keeps its place. -/
namespace PySem
namespace PlX
open PySem.W PySem.Calls PyProof.Rows PySem.HandSPX
/-! ### the text of __init__ -/
def args (p1 p2 : Pos) : Arguments := { posonlyargs := [], args := [{ arg := "self", annotation := none, pos := p1 }, { arg := "place", annotation := none, pos := p2 }], vararg := none, kwonlyargs := [], kw_defaults := [], kwarg := none, defaults := [] }
structure Ps where
  a : Pos
  b : Pos
  c : Pos
  d : Pos
  e : Pos
  f : Pos
  g : Pos
  h : Pos
  i : Pos
  j : Pos
  k : Pos
  l : Pos
  m : Pos
def say (msg : Str) (p : Ps) : Expr := .JoinedStr [.Constant (.str msg) 0 p.a, .FormattedValue (.Name "place" p.b) (-1) none p.c] p.d
def call (msg : Str) (p : Ps) : Expr := .Call (.Attribute (.Call (.Name "super" p.e) [] [] p.f) "__init__" p.g) [say msg p] [] p.h
def body (msg : Str) (p : Ps) : List Stmt := [.Expr (call msg p) p.i, .Assign [.Attribute (.Name "self" p.j) "place" p.k] (.Name "place" p.l) p.m]
/-- how the call is read -/
def Reads (msg : Str) (p : Ps) : Prop := ∀ env : Env, ∃ pl : Sem Bool, eval (call msg p) env = (do
  let ov ← attributeBase (.Call (.Name "super" p.e) [] [] p.f) "__init__" env (eval (.Call (.Name "super" p.e) [] [] p.f) env)
  standAt p.g.atName
  let (f, first) ← holding [ov] (getMethod ov "__init__" pl)
  callWith p.h f first (backTo p.h (starEach [say msg p] env)) [])
def scope : Scope := { kind := .function, names := [(PySem.Str.ofString "self", .local), (PySem.Str.ofString "place", .local), (PySem.Str.ofString "__class__", .free), (PySem.Str.ofString "super", .globalImplicit)], isGenerator := false, isCoroutine := false, more := [] }
theorem kSuper : List.lookup ("super" : Str) scope.names = some NameKind.globalImplicit := by decide +kernel
theorem kClass : List.lookup ("__class__" : Str) scope.names = some NameKind.free := by decide +kernel
theorem kSelf : List.lookup ("self" : Str) scope.names = some NameKind.local := by decide +kernel
theorem kPlace : List.lookup ("place" : Str) scope.names = some NameKind.local := by decide +kernel
/-- what the written part says of the class named nmC, at C, and of its __init__, at fI -/
structure Txt (P : Program) (K : Frag) (mg : Str → Option Value) (nmC : Str) (C fI : Addr) : Prop where
  gC : mg nmC = some (.ref C)
  cls : ∃ nm q N bs bm sn sub ab col dd k0 k1 k2 k3 k5, K.lookup C = some (excClassObj nm q C N bs bm true sn sub ab col dd k0 k1 k2 k3 k5 "ValueError.__new__") ∧ refsVE bm = true
  sa : findIn K (.ref C) "__setattr__" = some (some (.builtin "object.__setattr__"))
  ga : findIn K (.ref C) "__getattribute__" = some (some (.builtin "BaseException.__getattribute__"))
  gg : findIn K (.ref C) "__getattr__" = some none
  noN : findIn K (.ref C) "place" = some none
  iC : findIn K (.ref C) "__init__" = some (some (.ref fI))
  tC : typeIn K (.ref fI) = some (.type "function")
  kC : keepIn K (.ref C) = true
  exC : subIn K (.ref C) (.type "BaseException") = some true
  veC : subIn K (.ref C) (.type "ValueError") = some true
  tyC : typeIn K (.ref C) = some (.type "type")
  hdC : hasDictIn K C = true
  te : exmOne K (.ref C) (.ref C) = some true
  sup : ks_superIn K C C "__init__" = some (some (.builtin "ValueError.__init__"))
  opq : nsIn K cStatics "thirdparty.any" = some none
  exI : excInitIn K C veTail "ValueError.__new__" = true
  self : mroIn K C (.ref C) = some true
  sups : mg "super" = none
  top : (P.main.scope.names.lookup ("super" : Str)).isSome = false
  fn : ∃ (oc : Value) (od : Option Addr) (doc pm : Value) (an : Option Addr) (cda cc : Addr) (ct : Value) (osl : Array (Option Value)) (p1 p2 : Pos) (qual msg : Str) (ps : Ps) (ccl : Value) (cdd : Option Addr) (vs : Array Value) (ccs : Array (Option Value)) (file : Str) (tf : Tok) (cl : Value) (cld : Option Addr) (csl : Array (Option Value)),
    K.lookup fI = some ⟨oc, od, .func (ksFn "__init__" qual (args p1 p2) (body msg ps) scope .none .none doc pm an (.ref cda) ct cc), osl⟩ ∧ codeIn K (.ref cda) qual = true ∧ msg.length ≤ 100 ∧ Reads msg ps ∧
    K.lookup cda = some ⟨ccl, cdd, .fields vs, ccs⟩ ∧ vs[2]? = some (.str file tf) ∧ ((P.main.file : Str) == file) = true ∧ K.lookup cc = some ⟨cl, cld, .cell (some (.ref C)), csl⟩
/-- what stands as a place -/
def PlaceV (v : Value) : Prop := v = .none ∨ ∃ i t, v = .int i t ∧ i.natAbs.log2 < 1920
structure Made (h h' : Heap) (e C d : Addr) (v : Value) : Prop where
  keep : ∀ b o, h.get? b = some o → h'.get? b = some o
  new : h.objs.size ≤ e
  obj : ∃ oe vs, h'.get? e = some oe ∧ oe.cls = .ref C ∧ oe.dict = some d ∧ oe.data = .fields vs ∧ vs[1]? = some .none
  dbig : h.objs.size ≤ d
  dne : d ≠ e
  ns : h'.Ns1 d (fun y => if y = "place" then some v else none)
/-- what __init__ leaves of a fresh exception at x -/
structure Left (h h' : Heap) (x C dx t1 : Addr) (v : Value) : Prop where
  keep : ∀ b o, b ≠ x → h.get? b = some o → h'.get? b = some o
  obj : h'.get? x = some { cls := .ref C, dict := some dx, data := .fields #[.ref t1, .none, .none, .none, .bool false, .none] }
  dbig : h.objs.size ≤ dx
  dne : dx ≠ x
  ns : h'.Ns1 dx (fun y => if y = "place" then some v else none)
theorem ldN {M : Model} {A : Around} {E : Value → Shared → Prop} {s : Shared} {env : Env} {m : Str → Option Value} {x : Str} {pos : Pos} {v : Value} {Q : Value → Shared → Prop} (hn : s.heap.Ns env.locals m) (hv : m x = some v) (h : Q v s)
    (hk : env.scope.kind = .function := by rfl) (hl : env.kindOf x = some .local := by rfl) (hd : (x == ("__debug__" : Str)) = false := by decide) :
    wpAny M A (eval (.Name x pos) env) Q E s := wpAny_Name (wpAny_loadName_local hk hl hn hv h) hd
section
variable {prog : Program} {w : World} {A : Around} {E : Value → Shared → Prop} {R : Result → Shared → Prop} {s : Shared} {K : Frag} {mg : Str → Option Value} {C fI : Addr} {nmC : Str}
theorem say_runs {env : Env} {L : Addr} {m : Str → Option Value} {msg : Str} {p : Ps} {v : Value} {Q : Value → Shared → Prop} (hL : env.locals = L) (hn : s.heap.Ns L m) (hv : m "place" = some v) (pv : PlaceV v) (hz : msg.length ≤ 100)
    (hk : env.scope.kind = .function) (hl : env.kindOf "place" = some .local)
    (h : ∀ x t, Q x { s with toks := t }) : wpAny (model prog w) A (eval (say msg p) env) Q E s := by
  subst hL
  unfold say
  refine wpAny_JoinedStr ?_
  have e0 : evalEach [Expr.Constant (.str msg) 0 p.a, Expr.FormattedValue (.Name "place" p.b) (-1) none p.c] env = [eval (Expr.Constant (.str msg) 0 p.a) env, eval (Expr.FormattedValue (.Name "place" p.b) (-1) none p.c) env] := by first | rfl | simp [evalEach]
  rw [e0]
  have le0 : (Str.empty ++ msg).length ≤ 100 := by
    rw [Str.length_append]
    show 0 + msg.length ≤ 100
    omega
  refine wpAny_Constant_str ⟨msg, _, rfl, Nat.le_trans le0 (by rw [sizeLine_eq]; omega), ?_⟩
  refine wpAny_FormattedValue_plain (ldN hn hv ?_ hk hl (by decide))
  have fin : ∀ (y : Str) (t t' : Nat), y.length ≤ 2000 → ∃ y' t2, (Value.str y t) = .str y' t2 ∧ ((Str.empty ++ msg) ++ y').length ≤ sizeLine ∧
      Joins (model prog w) A E [] ((Str.empty ++ msg) ++ y') (fun out s₁ => out.length ≤ sizeLine ∧ Q (.str out s₁.toks) { s₁ with toks := s₁.toks + 1 }) { s with toks := t' } := fun y t t' hy => by
    have lz : ((Str.empty ++ msg) ++ y).length ≤ sizeLine := by
      rw [Str.length_append, sizeLine_eq]
      omega
    exact ⟨y, t, rfl, lz, lz, h _ _⟩
  rcases pv with rfl | ⟨i, t, rfl, hi⟩
  · exact wpAny_formatField_none (fin "None" _ _ (by decide))
  · exact wpAny_formatField_int hi (fin _ _ _ (Nat.le_trans (int_text_len_1921 hi) (by omega)))
theorem init_runs (T : Txt prog K mg nmC C fI) {x t0 : Addr} {v : Value} (pv : PlaceV v) (M : L2.Mod K mg s.heap) (hx : s.heap.get? x = some (excO C t0)) (hnx : K.lookup x = none) (hroom : A.depth < recursionLimit)
    (hq : ∀ h' tk dx t1, Left s.heap h' x C dx t1 v → R (.ok (.ret .none)) { s with heap := h', toks := tk }) :
    codeAny (model prog w) A (.call (.ref fI) ⟨[.ref x, v], []⟩) R s := by
  obtain ⟨oc, od, doc, pm, an, cda, cc, ct, osl, p1, p2, qual, msg, ps, ccl, cdd, vs, ccs, file, tf, cl, cld, csl, ho, hcd, hmsg, hrd, hcda, hvs, hfile, hcc⟩ := T.fn
  have X := M.kin
  refine ks_codeAny_call_defAt (fd := ksFn "__init__" qual (args p1 p2) (body msg ps) scope .none .none doc pm an (.ref cda) ct cc) (body := body msg ps) (binds := [("self", .ref x), ("place", v)]) hroom (X _ _ ho) rfl M.nolimit (codeRec_of X hcd) rfl
    (BindsTo.of_eq (by first | rfl | with_unfolding_all rfl)) (show ∀ y ∈ scope.names, y.2 ≠ .cell by decide +kernel)
    (fun y hy => by
      rcases List.mem_cons.mp hy with rfl | hy
      · exact kSelf
      · rcases List.mem_cons.mp hy with rfl | hy
        · exact kPlace
        · cases hy) (fun h₁ hns₁ k₁ => ?_) rfl rfl rfl
  obtain ⟨hp, g, d, tk, os⟩ := s
  have hxL : hp.objs.size ≠ x := Nat.ne_of_gt (Heap.lt_size hx)
  have lS : List.lookup ("self" : Str) ([("self", .ref x), ("place", v)] : List (Str × Value)).reverse = some (.ref x) := by first | rfl | with_unfolding_all rfl | kernel_rfl
  have lP : List.lookup ("place" : Str) ([("self", .ref x), ("place", v)] : List (Str × Value)).reverse = some v := by first | rfl | with_unfolding_all rfl | kernel_rfl
  have X₁ : K.In h₁ := X.keeps k₁
  have hx₁ := k₁ _ _ hx
  have G₁ := M.glob.keeps k₁
  obtain ⟨mb, B0, hB⟩ := M.blt
  have B₁ := B0.keeps k₁
  obtain ⟨nm, q, N, bs, bm, sn, sub, ab, col, dd, k0, k1, k2, k3, k5, hC, hbm⟩ := T.cls
  have hcl : clsIn K C = some { name := nm, bases := bs, mro := .ref C :: bm, ns := N, qualname := q, hasDict := true, slotNames := sn, subclasses := sub, abstract := ab, collection := col, hasDel := false } := by unfold clsIn; rw [hC] <;> rfl
  show PySem.wpAt _ _ _ (execs (_ :: _) _) _ _ _
  obtain ⟨pl, hpl⟩ := hrd (ksEnv qual scope hp.objs.size fI (.ref cda) cc)
  refine ks_wpAt_execs_cons (ks_wpAt_Expr_any (ks_wpAt_MethodCall (pl := pl) ?_ hpl))
  refine ks_wpAt_super_base (env := ksEnv qual scope hp.objs.size fI (.ref cda) cc) kSuper kClass (by decide) rfl (X₁ _ _ ho) rfl rfl rfl (X₁ _ _ hcda) rfl hvs hfile T.top ?_
  have hC₁ := X₁ _ _ hC
  refine ks_loadName_global rfl kSuper (loadGlobal_builtin (env := ksEnv qual scope hp.objs.size fI (.ref cda) cc) G₁ T.sups B₁ ((hB _ (by decide +kernel)).trans PyProof.Rows.Boot.«super») ⟨rfl, ?_⟩)
  refine wpAny_loadName_free (c := cc) rfl kClass rfl ⟨_, X₁ _ _ hcc, rfl⟩ ?_
  refine wpAny_loadName_local rfl kSelf hns₁ lS ?_
  refine ks_wpAny_isType_cls hC₁ rfl ⟨rfl, ?_⟩
  refine ks_wpAny_call_super hC₁ rfl hx₁ rfl (fun c e => by cases e) (looks_mroIn X₁ T.self) (fun h₂ e₂ k₂ => ?_)
  have X0 : K.In (hideAll hp [x]) := fun a o e => hideAll_get [x] (X a o e) fun z => by
    rw [List.mem_singleton.mp z] at e
    rw [show K.lookup x = some o from e] at hnx
    cases hnx
  have F1 : Fr (hideAll hp [x]) hp.objs.size h₁ _ := ⟨hns₁, fun b o e => k₁ b o (of_hideAll _ e), Nat.le_of_eq (hideAll_size _ _)⟩
  have N1 : News (hideAll hp [x]) hp.objs.size h₁ [(x, excO C t0)] := fun p hm => by
    rw [List.mem_singleton.mp hm]
    exact ⟨hx₁, Ne.symm hxL, hideAll_none _ (List.mem_singleton.mpr rfl)⟩
  obtain ⟨F2, N2, lt2⟩ := ks_newsPush (s := ⟨h₁, g, d, tk + 2, os⟩) F1 N1 rfl e₂ k₂
  refine kxs_method kxs_ValueError F2 X0 N2 (List.mem_cons_self ..) (odx := none) ⟨k₂ _ _ hx₁, rfl, rfl, trivial⟩ T.opq T.sup T.veC (by decide +kernel) (fun u h₃ F3 N3 lt3 => ?_)
  refine kxs_callWith1 N3 (List.mem_cons_self ..) ?_
  refine args_cons (say_runs (L := hp.objs.size) rfl F3.ns lP pv hmsg rfl kPlace fun y t => args_nil ?_)
  refine ⟨kxs_at N3 (List.mem_cons_self ..), ?_⟩
  have ltx : x < h₁.objs.size := lt2 (x, excO C t0) (List.mem_singleton.mpr rfl)
  have ltu : x < u := lt3 (x, excO C t0) (.tail _ (List.mem_singleton.mpr rfl))
  have U : UpdF x (excObj C t0 none .none) [(u, kxs_mw "ValueError.__init__" x), (h₁.objs.size, ks_superObj C x C), (x, excO C t0)] (fun o => [(u, kxs_mw "ValueError.__init__" x), (h₁.objs.size, ks_superObj C x C), (x, o)]) :=
    .tail (Nat.ne_of_gt ltu) (.tail (Nat.ne_of_gt ltx) (.head fun p hp => nomatch hp))
  refine kxs_call F3 X0 N3 F.excBase_ValueError T.exI (List.mem_cons_self ..) U (show 1 ≤ sizeLine by rw [sizeLine_eq]; omega) (fun t1 h₄ F4 N4 lt4 => ?_)
  have hx₄ : h₄.get? x = some (excObj C t1 none .none) := (N4 (x, excObj C t1 none .none) (.tail _ (.tail _ (.tail _ (List.mem_singleton.mpr rfl))))).1
  have X₄ : K.In h₄ := X0.keeps F4.keep
  show PySem.wpAt _ _ _ (execs (_ :: _) _) _ _ _
  refine ks_wpAt_execs_cons (ks_wpAt_Assign_Attr (wpAt_of_wpAny ?_))
  have n4 : h₄.Ns (ksEnv qual scope hp.objs.size fI (.ref cda) cc).locals (fun y => List.lookup y ([("self", .ref x), ("place", v)] : List (Str × Value)).reverse) := F4.ns
  show wpAny _ _ (eval (.Name "place" ps.l) (ksEnv qual scope hp.objs.size fI (.ref cda) cc)) _ _ ⟨h₄, g, d, _, os⟩
  refine ldN n4 lP ?_ rfl kPlace (by decide)
  show wpAny _ _ (eval (.Name "self" ps.j) (ksEnv qual scope hp.objs.size fI (.ref cda) cc)) _ _ ⟨h₄, g, d, _, os⟩
  refine ldN n4 lS ?_ rfl kSelf (by decide)
  refine set_plain X₄ (ox := excObj C t1 none .none) (od := none) ⟨hx₄, rfl, rfl, trivial⟩ T.sa ?_
  refine exc_osa X₄ hx₄ hcl (show refsVE (.ref C :: bm) = true from hbm) rfl T.noN (fun h₅ tk₅ dx k₅ dn dne hx₅ hn₅ => ?_)
  show PySem.wpAt _ _ _ (execs [] _) _ _ _
  refine wpAt_of_wpAny (wpAny_execs_nil (hq h₅ tk₅ dx t1 ⟨fun b o hb e => ?_, hx₅, ?_, dne, hn₅⟩))
  · exact k₅ b o hb (F4.keep b o (hideAll_get [x] e fun z => hb (List.mem_singleton.mp z)))
  · exact Nat.le_of_lt (Nat.lt_of_lt_of_le F4.ns.lt dn)
theorem made_runs (T : Txt prog K mg nmC C fI) {v : Value} (pv : PlaceV v) (M : L2.Mod K mg s.heap) (hroom : A.depth + 1 < recursionLimit)
    (hq : ∀ h' tk e d, Made s.heap h' e C d v → R (.ok (.ret (.ref e))) { s with heap := h', toks := tk }) :
    codeAny (model prog w) A (.call (.ref C) ⟨[v], []⟩) R s := by
  obtain ⟨nm, q, N, bs, bm, sn, sub, ab, col, dd, k0, k1, k2, k3, k5, hC, hbm⟩ := T.cls
  obtain ⟨hp, g, dr, tk, os⟩ := s
  have X := M.kin
  have k : ∀ b o, hp.get? b = some o → ((hp.push (kdv_tup [v])).push (excO C hp.objs.size)).get? b = some o := fun b o e => Heap.get?_push_of_some _ (Heap.get?_push_of_some _ e)
  have hget : ((hp.push (kdv_tup [v])).push (excO C hp.objs.size)).get? (hp.objs.size + 1) = some (excO C hp.objs.size) := by heap_get
  have hnx : K.lookup (hp.objs.size + 1) = none := by
    cases e : K.lookup (hp.objs.size + 1) with
    | none => rfl
    | some o => exact absurd (Nat.lt_of_succ_lt (Heap.lt_size (X _ _ e))) (Nat.lt_irrefl _)
  have M2 : L2.Mod K mg ((hp.push (kdv_tup [v])).push (excO C hp.objs.size)) := ⟨X.keeps k, M.glob.keeps k, M.blt.imp fun mb z => ⟨z.1.keeps k, z.2⟩, M.nolimit.keeps k⟩
  refine call_own F.excBase_ValueError (fun Y => refsVE_contains Y bm hbm) (X _ _ hC) (looks_findIn X T.iC) (fun self => bind_fn X self T.tC) (show 1 ≤ sizeLine by rw [sizeLine_eq]; omega) ?_
  refine init_runs (s := ⟨(hp.push (kdv_tup [v])).push (excO C hp.objs.size), g, dr, tk, os⟩) T pv M2 hget hnx hroom fun h' tk' dx t1 L => ?_
  refine ⟨rfl, hq h' tk' (hp.objs.size + 1) dx ⟨fun b o e => L.keep b o (Nat.ne_of_lt (Nat.lt_succ_of_lt (Heap.lt_size e))) (k b o e), Nat.le_succ _, ⟨_, _, L.obj, rfl, rfl, rfl, rfl⟩, Nat.le_trans ?_ L.dbig, L.dne, L.ns⟩⟩
  show hp.objs.size ≤ ((hp.push (kdv_tup [v])).push (excO C hp.objs.size)).objs.size
  rw [Heap.size_push, Heap.size_push]
  omega
end
end PlX
end PySem
end
section
/-! The hand layer's words for errors that keep a place. -/
namespace L2
open PySem PySem.Spec PyProof.Rows
/-- the field that the error keeps, and no other -/
theorem place_fields {v : V} {u : Value} (r : RelV v u) (f : Str) : RelO ([(("place" : Str), v)].lookup f) (if f = "place" then some u else none) := by
  rcases Classical.em (f = "place") with rfl | h
  · rw [if_pos rfl]
    have z : [(("place" : Str), v)].lookup ("place" : Str) = some v := by simp [List.lookup]
    rw [z]; exact r
  · rw [if_neg h]
    have z0 : (f == ("place" : Str)) = false := by simpa using h
    have z : [(("place" : Str), v)].lookup f = none := by simp [List.lookup, z0]
    rw [z]; exact trivial
/-- what may be a place -/
def PlaceW (v : V) : Prop := v = .non ∨ ∃ i : Int, v = .int i ∧ i.natAbs.log2 < 1920
theorem placeW_val {v : V} {u : Value} (h : PlaceW v) (r : RelV v u) : PySem.PlX.PlaceV u := by
  rcases h with rfl | ⟨i, rfl, hi⟩
  · obtain rfl : u = .none := r
    exact .inl rfl
  · obtain ⟨t, rfl⟩ := r
    exact .inr ⟨i, t, rfl, hi⟩
section
variable {X : Cx} {C fI : Addr} {nmC : Str}
/-- C(e) -/
def tMkPl (C : Addr) (ta : TA) : St → Hp → XK → Prop := fun σ H Q => ta σ H fun vs H1 => ∃ v, vs = [v] ∧ PlaceW v ∧ ∀ d, H1 d = none → Q (.ref C) (some d) (upd H1 d (.xd [(("place" : Str), v)]))
theorem pmk_pl {a : Expr} {ta : TA} {p pos : Pos} {k : Nat} (T : PySem.PlX.Txt X.prog X.K X.mg nmC C fI) (hr : Room (k + 1) X.A) (ha : PA X [a] ta) (hg : Gl X nmC) (hdb : (nmC == ("__debug__" : Str)) = false := by decide)
    (he : starEach (a :: []) X.env = (false, eval a X.env) :: starEach [] X.env := by rfl) (hpl : (backTo pos (starEach [] X.env)).any (·.1) = false := by rfl) :
    PMk X (.Call (.Name nmC p) [a] [] pos) (tMkPl C ta) := fun pins s σ H Q I h => by
  refine wpAny_Call_Name_kw (ld_glob I hg T.gC ?_ hdb)
  refine PySem.W.callWith_K (h₀ := X.base) I.ok.mod.kin T.kC (thn (ha.run pos pins s σ H _ I h) fun us s1 hh => ?_) he hpl
  obtain ⟨vs, H1, I1, r1, v, ev, hv, q1⟩ := hh
  subst ev
  refine ⟨I1.kIn, ?_⟩
  cases r1 with
  | @cons _ u0 _ us' rv rn =>
    cases rn
    have M : Mod X.K X.mg s1.heap := ⟨I1.kIn, I1.ok.mod.glob.keeps I1.bk, I1.ok.mod.blt.imp fun mb z => ⟨z.1.keeps I1.bk, z.2⟩, I1.nolimit⟩
    show wpAny _ _ (call (.ref C) [u0]) _ _ _
    obtain ⟨hp, g, dr, tk, os⟩ := s1
    refine wpAny_call (PySem.PlX.made_runs T (placeW_val hv rv) M (by have := hr.dp; omega) fun h' tk' e d Z => ?_)
    show MkP X pins σ Q (.ref e) ⟨h', g, dr, tk', os⟩
    obtain ⟨oe, fv, hoe, hc, hd, hdat, hnil⟩ := Z.obj
    obtain ⟨G, same, gone⟩ := restrict h' fun b => decide (b ≠ e)
    have gs : ∀ b, b ≠ e → G.get? b = h'.get? b := fun b hb => same b (decide_eq_true hb)
    have ge : G.get? e = none := gone e (decide_eq_false fun z => z rfl)
    have keep : ∀ b o, hp.get? b = some o → G.get? b = some o := fun b o q => by
      rw [gs b (Nat.ne_of_lt (Nat.lt_of_lt_of_le (Heap.lt_size q) Z.new))]
      exact Z.keep b o q
    have dict : ObjOk X.prog X.w (upd H1 d (.xd [(("place" : Str), v)])) G d (.xd [(("place" : Str), v)]) :=
      ⟨_, Z.ns.at (fun o q => (gs d Z.dne).trans q), fun f => place_fields rv f⟩
    have J : Inv X pins σ (upd H1 d (.xd [(("place" : Str), v)])) ⟨G, g, dr, tk', os⟩ := I1.laid (t' := tk') keep Z.dbig dict
    have ne : (upd H1 d (.xd [(("place" : Str), v)])) e = none := by
      rw [upd_ne (Ne.symm Z.dne)]; exact I1.hok.fresh Z.new
    refine ⟨e, oe, fv, ⟨G, g, dr, tk', os⟩, _, .ref C, some d, rfl, J, fun b o q => ?_, ge, hoe, ⟨hc, hd⟩, hdat, hnil, ne, rfl, I1.bare, raises_own T.exC T.tyC, q1 d (I1.hok.fresh Z.dbig)⟩
    have nb : b ≠ e := fun z => by
      rw [z] at q
      rw [show G.get? e = some o from q] at ge
      cases ge
    exact (gs b nb).symm.trans q
end
theorem xfc_of {P : Program} {K : PySem.W.Frag} {mg : Str → Option Value} {nmC : Str} {C fI : Addr} (T : PySem.PlX.Txt P K mg nmC C fI) : XfC K C := ⟨T.ga, T.gg, T.exC, T.hdC⟩
end L2
end
section
/-! The same rules with the written part named: for a comprehension's block. -/
namespace L2
open PySem PySem.Spec PyProof.Rows
section
variable {X : Cx} {K : PySem.W.Frag}
theorem ix_tupK (hK : X.K = K) : IxR X (rIxT K) := hK ▸ ix_tup
theorem ix_listK (hK : X.K = K) : IxR X (rIxL K) := hK ▸ ix_list
theorem pt_tru {a : Expr} {ta : TE} (hK : X.K = K) (ha : PE X a ta) (he : ∀ whole, isTrue a X.env whole = (do let v ← whole; standAt a.pos; holding [v] (truthy v))) : PT X a (tTru K ta) := by
  subst hK
  exact pt_truth ha he
theorem pi_listK {tg l : Expr} {tl : TE} (hK : X.K = K) (hl : PE X l tl) : PI X tg l (iList K tl) := by
  subst hK
  exact pi_list hl
theorem pi_tupK {tg l : Expr} {tl : TE} (hK : X.K = K) (hl : PE X l tl) : PI X tg l (iTup K tl) := by
  subst hK
  exact pi_tup hl
theorem pg_tupK {es : List Expr} {k : Nat} {t : TGs} {n : Nat} {pos : Pos} (hK : X.K = K) (hc : X.calm = true) (h : PGs X es t) (hn : (assignEach es X.env).length = n := by rfl) (hst : (assignEach es X.env).findIdx? (·.1) = none := by rfl) : PG X (.Tuple es k pos) (gTup K n t) := by
  subst hK
  exact pg_tup hc h hn hst
theorem op_inQK {P : Program} {w : World} (hP : X.prog = P) (hw : X.w = w) : OpR X (compareOp .In) (MX.rInQ P w false) := by
  subst hP hw
  exact MX.op_inQ
theorem op_notInQK {P : Program} {w : World} (hP : X.prog = P) (hw : X.w = w) : OpR X (compareOp .NotIn) (MX.rInQ P w true) := by
  subst hP hw
  exact MX.op_notInQ
theorem op_in_seqK (hK : X.K = K) : OpR X (compareOp .In) (rIn K false) := by
  subst hK
  exact op_in_seq
theorem op_notIn_seqK (hK : X.K = K) : OpR X (compareOp .NotIn) (rIn K true) := by
  subst hK
  exact op_notIn_seq
end
end L2
end
section
/-! The machine is made. -/
namespace K1
open PySem L2
open MX (Rise Up)
abbrev sMInit : Stmt := inClass (top 27) 0
def stpK (s : Stp) : List Key := [.inl s.a, .inr s.k, .inr s.s, .inl s.g]
theorem stpK_V (s : Stp) : (stpK s).map kV = stepV s := rfl
theorem stpK_inj {s t : Stp} (h : stpK s = stpK t) : s = t := by
  obtain ⟨a, k, w, g⟩ := s
  obtain ⟨a', k', w', g'⟩ := t
  simp only [stpK, List.cons.injEq, Sum.inl.injEq, Sum.inr.injEq, and_true] at h
  obtain ⟨rfl, rfl, rfl, rfl⟩ := h
  rfl
/-- a step of a machine of so many states -/
def OkS (many : Int) (s : Stp) : Prop := 0 ≤ s.a ∧ s.a < many ∧ 0 ≤ s.g ∧ s.g < many ∧ wordE (.str s.k) = true ∧ wordE (.str s.s) = true
theorem stepB_ok {H : Hp} {many : Int} {p : Addr} {s : Stp} (h : H p = some (.tup (stepV s))) (o : OkS many s) : stepB H many (.ref p) = true := by
  obtain ⟨h1, h2, h3, h4, h5, h6⟩ := o
  unfold stepB
  simp only [h, stepV, fourB, decide_eq_true h1, decide_eq_true h2, decide_eq_true h3, decide_eq_true h4, h5, h6, Bool.and_self]
theorem Pl.at {K : PySem.W.Frag} {H : Hp} {a : Addr} {T : String} (h : Pl K H (.ref a) T) : ∃ o, H a = some o := by
  cases h with
  | lst h => exact ⟨_, h⟩
  | tup h => exact ⟨_, h⟩
  | dK h => exact ⟨_, h⟩
theorem Look.stepB_same {K : PySem.W.Frag} {H H' : Hp} {v : V} {many : Int} (e : Same H H') (l : Look K H v) : stepB H' many v = stepB H many v := by
  obtain ⟨ty, pl, _⟩ := l
  cases v with
  | ref a =>
    obtain ⟨o, ho⟩ := pl.at
    unfold stepB
    simp only [ho, e _ _ ho]
  | _ => rfl
theorem Look.same {K : PySem.W.Frag} {H H' : Hp} {v : V} (e : Same H H') (l : Look K H v) : Look K H' v := by
  obtain ⟨ty, pl, al⟩ := l
  refine ⟨ty, pl.same e, fun a xs hv hx x hm => ?_⟩
  subst hv
  obtain ⟨o, ho⟩ := pl.at
  have z := e _ _ ho
  rw [hx] at z
  rw [← Option.some.inj z] at ho
  obtain ⟨t, pt, nr⟩ := al a xs rfl ho x hm
  exact ⟨t, pt.same e, nr⟩
theorem wordE_len {x : Str} (h : wordE (.str x) = true) : x.length ≤ sizeLine := by
  have z : (decide (x = Str.ofString "") || wordS x) = true := h
  rcases Bool.or_eq_true_iff.mp z with z | z
  · rw [of_decide_eq_true z, sizeLine_eq]; decide
  · unfold wordS at z
    simp only [Bool.and_eq_true, decide_eq_true_eq] at z
    rw [sizeLine_eq]; omega
theorem look_step {K : PySem.W.Frag} {H : Hp} {many : Int} {p : Addr} {s : Stp} (h : H p = some (.tup (stepV s))) (o : OkS many s) : Look K H (.ref p) := by
  refine ⟨_, .tup h, fun a xs e hx x hm => ?_⟩
  cases e
  rw [h] at hx
  cases hx
  rcases List.mem_cons.mp hm with rfl | hm
  · exact ⟨_, .int _, fun _ z => nomatch z⟩
  rcases List.mem_cons.mp hm with rfl | hm
  · exact ⟨_, .str (wordE_len o.2.2.2.2.1), fun _ z => nomatch z⟩
  rcases List.mem_cons.mp hm with rfl | hm
  · exact ⟨_, .str (wordE_len o.2.2.2.2.2), fun _ z => nomatch z⟩
  rcases List.mem_cons.mp hm with rfl | hm
  · exact ⟨_, .int _, fun _ z => nomatch z⟩
  · cases hm
theorem Row.each {H : Hp} {xs : List V} {sts : List Stp} (h : Row H xs sts) : ∀ x ∈ xs, ∃ s ∈ sts, ∃ p, x = .ref p ∧ H p = some (.tup (stepV s)) := by
  unfold Row at h
  induction h with
  | nil => intro x hx; cases hx
  | @cons y s ys ss h t ih =>
    intro x hx
    rcases List.mem_cons.mp hx with rfl | hx
    · exact ⟨s, List.mem_cons_self .., h⟩
    · obtain ⟨s', a, b⟩ := ih x hx
      exact ⟨s', List.mem_cons_of_mem _ a, b⟩
/-! ### what a machine looks like -/
def mFlds (many : Int) (sA kA wA bA dA : Addr) : List (Str × V) :=
  putF "_known" (.ref dA) (putF "by_state" (.ref bA) (putF "words" (.ref wA) (putF "kinds" (.ref kA) (putF "steps" (.ref sA) (putF "many" (.int many) [])))))
/-- the texts of a kind's or word's list: ascending, those that are not empty of the steps -/
def Texts (f : Stp → Str) (sts : List Stp) (ks : List Str) : Prop := Up (ks.map .inr) ∧ ∀ k, k ∈ ks ↔ k ≠ Str.ofString "" ∧ ∃ s ∈ sts, f s = k
structure MBody (H : Hp) (sA kA wA bA dA : Addr) (many : Int) (sts : List Stp) : Prop where
  stp : ∃ vs, H sA = some (.tup vs) ∧ Row H vs sts
  kin : ∃ ks : List Str, H kA = some (.lst (ks.map V.str)) ∧ Texts Stp.k sts ks
  wor : ∃ ks : List Str, H wA = some (.lst (ks.map V.str)) ∧ Texts Stp.s sts ks
  byS : ∃ rows : List Addr, H bA = some (.lst (rows.map V.ref)) ∧ (rows.length : Int) = many ∧ ∀ (j : Nat) r, rows[j]? = some r → ∃ ws, H r = some (.lst ws) ∧ Row H ws (sts.filter fun s => decide (s.a = j))
  kno : ∃ kvs : List (List Key × V), H dA = some (.dT kvs) ∧ ∀ k, (valV kvs k).isSome = true ↔ k ∈ sts.map stpK
def MachAt (C : Addr) (H : Hp) (p : Addr) (many : Int) (sts : List Stp) : Prop := ∃ dx sA kA wA bA dA, H p = some (.ins C dx (mFlds many sA kA wA bA dA)) ∧ MBody H sA kA wA bA dA many sts
theorem MBody.same {H H' : Hp} {sA kA wA bA dA : Addr} {many : Int} {sts : List Stp} (e : Same H H') (m : MBody H sA kA wA bA dA many sts) : MBody H' sA kA wA bA dA many sts := by
  obtain ⟨⟨vs, h1, h2⟩, ⟨ks, h3, h4⟩, ⟨ws, h5, h6⟩, ⟨rows, h7, h8, h9⟩, ⟨kvs, h10, h11⟩⟩ := m
  exact ⟨⟨vs, e _ _ h1, h2.same e⟩, ⟨ks, e _ _ h3, h4⟩, ⟨ws, e _ _ h5, h6⟩, ⟨rows, e _ _ h7, h8, fun j r hr => let ⟨ws, a, b⟩ := h9 j r hr; ⟨ws, e _ _ a, b.same e⟩⟩, ⟨kvs, e _ _ h10, h11⟩⟩
theorem MachAt.same {C : Addr} {H H' : Hp} {p : Addr} {many : Int} {sts : List Stp} (e : Same H H') (m : MachAt C H p many sts) : MachAt C H' p many sts := by
  obtain ⟨dx, sA, kA, wA, bA, dA, h, b⟩ := m
  exact ⟨dx, sA, kA, wA, bA, dA, e _ _ h, b.same e⟩
/-! ### the promise -/
def headOk (mv : V) (ts : String) : Bool := (match mv with | .int i => decide (1 ≤ i) && decide (i ≤ 3000) | _ => false) && (decide (ts = "list") || decide (ts = "tuple"))
def badAt (CB : Addr) (H : Hp) (E : XK) (v : V) : Prop := ∀ (d : Addr) (H' : Hp), Same H H' → H' d = none → E (.ref CB) (some d) (upd H' d (.xd [(("place" : Str), v)]))
def spMInit (K : PySem.W.Frag) (C CB : Addr) : Sp := fun vs H Q E => ∃ (p dx : Addr) (mv sv : V), vs = [.ref p, mv, sv] ∧ H p = some (.ins C dx []) ∧
  ((∃ tm ts, Pl K H mv tm ∧ Pl K H sv ts ∧ headOk mv ts = false ∧ badAt CB H E .non) ∨
   ∃ (many : Int) (a : Addr) (xs : List V), mv = .int many ∧ 1 ≤ many ∧ many ≤ 3000 ∧ sv = .ref a ∧ (H a = some (.lst xs) ∨ H a = some (.tup xs)) ∧ xs.length < 64 ∧
     ((∃ i : Nat, i < xs.length ∧ (∀ x ∈ xs, Look K H x) ∧ (∀ j x, j < i → xs[j]? = some x → stepB H many x = true) ∧ (∀ x, xs[i]? = some x → stepB H many x = false) ∧ badAt CB H E (.int i)) ∨
      ∃ sts, Row H xs sts ∧ (∀ s ∈ sts, OkS many s) ∧ ∀ H' sts', Rise (sts'.map stpK) → (∀ s, s ∈ sts' ↔ s ∈ sts) → MachAt C H' p many sts' → (∀ b o, H b = some o → b ≠ p → H' b = some o) → Q .non H'))
theorem headOk_int (i : Int) (ts : String) : headOk (.int i) ts = ((decide (1 ≤ i) && decide (i ≤ 3000)) && (decide (ts = "list") || decide (ts = "tuple"))) := rfl
theorem Pl.kit2 {K : PySem.W.Frag} {H : Hp} {v : V} {T : String} (h : Pl K H v T) : PySem.W.kitAny K (.type T) [.type "list", .type "tuple"] = some (decide (T = "list") || decide (T = "tuple")) := by
  refine kitAny_cons (b := decide (T = "list")) (h.kit "list" (.inr (.inr rfl))) (fun e => ?_) (fun e => by rw [e]; rfl)
  rw [e, Bool.false_or]
  refine kitAny_cons (b := decide (T = "tuple")) (h.kit "tuple" (.inr (.inl rfl))) (fun e2 => ?_) (fun e2 => e2)
  rw [e2]; rfl
theorem head_reads {K : PySem.W.Frag} {σ : L2.St} {H : Hp} {mv sv : V} {tm ts : String} {R : Bool → Hp → Prop} (h1 : σ[1]? = some (some mv)) (h2 : σ[2]? = some (some sv)) (plm : Pl K H mv tm) (pls : Pl K H sv ts) (k : ∀ H', Same H H' → R (!headOk mv ts) H') :
    (tOr (tNot (tB (tCall (spNum K) [] E0 (tCons (tVar 1) tNil)))) (tOr (tNot (tTest (tChain (rI0 fun i j => V.bl (decide (i ≤ j))) (rI0 fun i j => V.bl (decide (i ≤ j))) (tC (V.int 1)) (tVar 1) (tC (V.int 3000)))))
      (tNot (tB (tCB (rIsiT K) (tCons (tVar 2) (tCons (tTup (tCons (tC (V.ty "list")) (tCons (tC (V.ty "tuple")) tNil))) tNil))))))) σ H R := by
  refine ⟨_, h1, mv, tm, rfl, plm, _, rfl, ?_⟩
  have bad : headOk mv ts = false → R true H := fun e => by
    have z := k H (Same.refl H)
    rwa [e] at z
  cases cn : numB mv with
  | false =>
    refine iteT (bad ?_)
    cases mv with
    | int i =>
      have z : decide (0 ≤ i) = false := cn
      have z2 : ¬ (1 : Int) ≤ i := by have := of_decide_eq_false z; omega
      rw [headOk_int, decide_eq_false z2]; rfl
    | _ => rfl
  | true =>
    obtain ⟨i, rfl⟩ : ∃ i, mv = .int i := by
      cases mv with
      | int i => exact ⟨i, rfl⟩
      | _ => exact absurd cn Bool.false_ne_true
    refine iteF ⟨_, h1, _, _, rfl, rfl, _, rfl, ?_⟩
    rcases Decidable.em ((1 : Int) ≤ i) with c | c
    · rw [decide_eq_true c]
      refine iteT ⟨_, _, rfl, rfl, _, rfl, ?_⟩
      rcases Decidable.em (i ≤ 3000) with d | d
      · rw [decide_eq_true d]
        refine iteF ⟨_, h2, by show 2 ≤ sizeLine; decide, fun t ht => ⟨sv, t, _, _, _, _, rfl, upd_same, .cons (.ty _) (.cons (.ty _) .nil), (pls.same (same_new ht)).tyX, pls.kit2, _, rfl, ?_⟩⟩
        have z := k _ (same_new (o := .tup [V.ty "list", V.ty "tuple"]) ht)
        rw [headOk_int, decide_eq_true c, decide_eq_true d, Bool.true_and, Bool.true_and] at z
        exact z
      · rw [decide_eq_false d]
        refine iteT (bad ?_)
        rw [headOk_int, decide_eq_false d, Bool.and_false]; rfl
    · rw [decide_eq_false c]
      refine iteF ⟨_, rfl, iteT (bad ?_)⟩
      rw [headOk_int, decide_eq_false c]; rfl
theorem walk_enumT {K : PySem.W.Frag} {a : Addr} {xs : List V} : Walk (MX.IteT K a) xs.length (fun H => SqT K H a xs) (YPair (fun i => some (.int (i : Nat))) (fun i => xs[i]?)) := by
  refine ⟨fun i _ hi q => ⟨xs, xs[i], q, by simp [hi]⟩, fun _ q => ⟨xs, q, Nat.le_refl _⟩, fun i H v H' _ q ⟨T, x, h1, h2, h3, h4⟩ => ⟨T, .int (i : Nat), x, h1, h2, h3, rfl, h4 xs q⟩⟩
def loopR (J : It) (g : TG) (tb : TS) (D : Ends) (σ : L2.St) (H : Hp) : Prop := ∃ W : Nat → Nat → L2.St → Hp → Prop, (∃ m, W 0 m σ H) ∧ ∀ i m σ H, W i m σ H →
  (J.stop i H ∧ D.nx σ H) ∨ (J.go i H ∧ ∃ N : L2.St → Hp → Prop, (∀ σ' H', N σ' H' → ∃ m', m' < m ∧ W (i + 1) m' σ' H') ∧ ∀ x H', J.yld i H x H' → g x σ H' fun σ2 H2 => tb { D with nx := N, ct := N, bk := D.nx } σ2 H2)
def checkBody (K : PySem.W.Frag) (CB : Addr) (E : XK) : TS := tIfS (tNot (tB (tCall (spIsStep K) [] E0 (tCons (tVar 1) (tCons (tVar 4) tNil))))) (fun _ σ H => tMkPl CB (tCons (tVar 3) tNil) σ H fun cls d H' => E cls d H') tNext
theorem log_small {n : Nat} (h : n < 64) : ((n : Int)).natAbs.log2 < 1920 := by
  rw [Int.natAbs_natCast]
  exact Nat.lt_of_le_of_lt (Nat.log2_le_self n) (by omega)
theorem check_loop {K : PySem.W.Frag} {CB p : Addr} {sv : V} {E : XK} {D : Ends} {J : It} {G : Hp → Prop} {xs : List V} {H H0 : Hp} {many : Int} {n : Nat} (w : Walk J xs.length G (YPair (fun i => some (.int (i : Nat))) (fun i => xs[i]?))) (hG : ∀ H', Same H H' → G H') (e0 : Same H H0)
    (all : ∀ x ∈ xs, Look K H x) (gd : ∀ j x, j < n → xs[j]? = some x → stepB H many x = true) (hn : n ≤ xs.length) (few : xs.length < 64)
    (bad : n < xs.length → (∀ x, xs[n]? = some x → stepB H many x = false) ∧ badAt CB H E (.int n))
    (fin : n = xs.length → ∀ H' v3 v4, Same H H' → D.nx [some (.ref p), some (.int many), some sv, v3, v4, none] H') :
    loopR J (gTup K 2 (gCons (gName 3) (gCons (gName 4) gNil))) (checkBody K CB E) D [some (.ref p), some (.int many), some sv, none, none, none] H0 := by
  refine for_it w (fun i σ H' => ∃ v3 v4, σ = [some (.ref p), some (.int many), some sv, v3, v4, none] ∧ Same H H' ∧ i ≤ n) ⟨none, none, rfl, e0, Nat.zero_le _⟩ (fun i σ H' _ ⟨_, _, _, e, _⟩ => hG H' e) ?_ ?_
  · rintro i x σ H1 H1' hi ⟨v3, v4, rfl, e1, le⟩ ⟨T, y, z, rfl, hT, rfl, hy, hz⟩
    cases hy
    have e2 : Same H (upd H1 T (.tup [.int (i : Nat), z])) := e1.trans (same_new hT)
    have lk := all z (List.mem_of_getElem? hz)
    refine ⟨T, _, rfl, SqT.of upd_same, rfl, _, _, rfl, _, _, rfl, rfl, _, rfl, _, rfl, many, z, rfl, lk.same e2, _, rfl, ?_⟩
    rw [lk.stepB_same e2]
    rcases Nat.lt_or_ge i n with c | c
    · rw [gd i z c hz]
      exact iteF ⟨_, _, rfl, e2, c⟩
    · obtain rfl : i = n := Nat.le_antisymm le c
      obtain ⟨b1, b2⟩ := bad hi
      rw [b1 z hz]
      exact iteT ⟨_, rfl, _, rfl, .inr ⟨_, rfl, log_small (Nat.lt_trans hi few)⟩, fun d hd => b2 d _ e2 hd⟩
  · rintro σ H' ⟨v3, v4, rfl, e1, le⟩
    exact fin (by omega) H' v3 v4 e1

/-! ### the attributes' values -/
theorem Row.pairs {H : Hp} {xs : List V} {sts : List Stp} (h : Row H xs sts) : ∃ ks : List (Addr × List Key), xs = ks.map (fun p => V.ref p.1) ∧ ks.map (·.2) = sts.map stpK ∧ ∀ p ∈ ks, H p.1 = some (.tup (p.2.map kV)) := by
  unfold Row at h
  induction h with
  | nil => exact ⟨[], rfl, rfl, fun p hp => nomatch hp⟩
  | @cons y s ys ss h t ih =>
    obtain ⟨p, rfl, hp⟩ := h
    obtain ⟨ks, rfl, e, hk⟩ := ih
    refine ⟨(p, stpK s) :: ks, rfl, by rw [List.map_cons, List.map_cons, e], fun q hq => ?_⟩
    rcases List.mem_cons.mp hq with rfl | hq
    · exact hp
    · exact hk q hq
theorem Row.of_pairs {H : Hp} : ∀ {ks : List (Addr × List Key)} {sts : List Stp}, ks.map (·.2) = sts.map stpK → (∀ p ∈ ks, H p.1 = some (.tup (p.2.map kV))) → Row H (ks.map fun p => V.ref p.1) sts
  | [], [], _, _ => .nil
  | [], _ :: _, e, _ => by cases e
  | _ :: _, [], e, _ => by cases e
  | p :: ks, s :: sts, e, hk => by
    rw [List.map_cons, List.map_cons] at e
    obtain ⟨e1, e2⟩ := List.cons.inj e
    refine .cons ⟨p.1, rfl, ?_⟩ (Row.of_pairs e2 fun q hq => hk q (List.mem_cons_of_mem _ hq))
    rw [hk p (List.mem_cons_self ..), e1, stpK_V]
theorem keys_steps {sts : List Stp} : ∀ {l : List (List Key)}, (∀ k ∈ l, k ∈ sts.map stpK) → ∃ sts' : List Stp, l = sts'.map stpK
  | [], _ => ⟨[], rfl⟩
  | k :: l, h => by
    obtain ⟨s, _, e⟩ := List.mem_map.mp (h k (List.mem_cons_self ..))
    obtain ⟨ss, e2⟩ := keys_steps fun q hq => h q (List.mem_cons_of_mem _ hq)
    exact ⟨s :: ss, by rw [List.map_cons, e, ← e2]⟩
theorem short_of : ∀ {l m : List Stp}, l.Nodup → (∀ s ∈ l, s ∈ m) → l.length ≤ m.length
  | [], m, _, _ => Nat.zero_le _
  | s :: l, m, n, h => by
    obtain ⟨n1, n2⟩ := List.nodup_cons.mp n
    have hm := h s (List.mem_cons_self ..)
    have ih := short_of (l := l) (m := m.erase s) n2 fun t ht => (List.mem_erase_of_ne (fun e => n1 (by rw [← e]; exact ht))).mpr (h t (List.mem_cons_of_mem _ ht))
    rw [List.length_erase_of_mem hm] at ih
    have := List.length_pos_of_mem hm
    rw [List.length_cons]; omega
theorem rise_nodup {l : List Stp} (h : Rise (l.map stpK)) : l.Nodup := by
  have z : (l.map stpK).Nodup := h.imp fun {a b} hab e => by
    rw [e, MX.klt_irrefl] at hab
    cases hab
  exact List.Pairwise.of_map stpK (fun a b hn e => hn (congrArg stpK e)) z
/-- tuple(sorted(set(steps))) -/
theorem steps_value {K : PySem.W.Frag} {P : Program} {w : World} {σ : L2.St} {H : Hp} {R : VK} {a : Addr} {xs : List V} {sts : List Stp} (h2 : σ[2]? = some (some (.ref a))) (hs : H a = some (.lst xs) ∨ H a = some (.tup xs)) (few : xs.length < 64) (row : Row H xs sts)
    (k : ∀ (H' : Hp) (t : Addr) (vs : List V) (sts' : List Stp), Same H H' → H t = none → H' t = some (.tup vs) → Row H' vs sts' → Rise (sts'.map stpK) → (∀ s, s ∈ sts' ↔ s ∈ sts) → sts'.length < 64 → R (.ref t) H') :
    tCB (fun xs H1 Q => ∃ (p : Addr) (ys : List V), xs = [V.ref p] ∧ ((SqL K H1 p ys ∧ ∀ l : Addr, H1 l = none → Q (V.ref l) (upd H1 l (.tup ys))) ∨ SqT K H1 p ys ∧ Q (V.ref p) H1))
      (tCons (tCB (MX.rSortedM K P w) (tCons (tCB (MX.rSetM K P w) (tCons (tVar 2) tNil)) tNil)) tNil) σ H R := by
  obtain ⟨ks, rfl, ek, hk⟩ := row.pairs
  refine ⟨_, h2, a, ks, rfl, hs.elim (fun h => .inl (SqL.of h)) (fun h => .inr (SqT.of h)), fun p hp => SqT.of (hk p hp), by simpa using few, fun S L hS inn all => ?_⟩
  have e1 : Same H (upd H S (MX.SetMO P w S L)) := same_new hS
  refine ⟨S, L, [true, false, false, true], rfl, upd_same, fun p hp => SqT.of (e1 _ _ (hk p (inn p hp))), by decide, fun p hp => ?_, fun M q pm rise hq => ?_⟩
  · have z : p.2 ∈ sts.map stpK := by rw [← ek]; exact List.mem_map_of_mem (inn p hp)
    obtain ⟨s, _, e⟩ := List.mem_map.mp z
    rw [← e]; rfl
  have e2 := e1.trans (same_new (o := .lst (M.map fun q => V.ref q.1)) hq)
  refine ⟨q, _, rfl, .inl ⟨SqL.of upd_same, fun t ht => ?_⟩⟩
  have e3 := e2.trans (same_new (o := .tup (M.map fun q => V.ref q.1)) ht)
  have inM : ∀ p ∈ M, p ∈ ks := fun p hp => inn p (pm.subset hp)
  obtain ⟨sts', es⟩ := keys_steps (sts := sts) (l := M.map (·.2)) fun z hz => by
    obtain ⟨p, hp, rfl⟩ := List.mem_map.mp hz
    rw [← ek]; exact List.mem_map_of_mem (inM p hp)
  refine k _ t _ sts' e3 (e2.free ht) upd_same (Row.of_pairs es fun p hp => e3 _ _ (hk p (inM p hp))) (by rw [← es]; exact rise) (fun s => ?_) ?_
  · have m1 : s ∈ sts' ↔ stpK s ∈ M.map (·.2) := by
      rw [es]
      exact ⟨fun h => List.mem_map_of_mem h, fun h => by obtain ⟨z, hz, e⟩ := List.mem_map.mp h; rw [← stpK_inj e]; exact hz⟩
    have m2 : s ∈ sts ↔ stpK s ∈ ks.map (·.2) := by
      rw [ek]
      exact ⟨fun h => List.mem_map_of_mem h, fun h => by obtain ⟨z, hz, e⟩ := List.mem_map.mp h; rw [← stpK_inj e]; exact hz⟩
    rw [m1, m2]
    constructor
    · intro h
      obtain ⟨p, hp, e⟩ := List.mem_map.mp h
      rw [← e]; exact List.mem_map_of_mem (inM p hp)
    · intro h
      obtain ⟨p, hp, e⟩ := List.mem_map.mp h
      obtain ⟨p', hp', e'⟩ := List.mem_map.mp (all p hp)
      rw [← e, ← e']; exact List.mem_map_of_mem (pm.symm.subset hp')
  · refine Nat.lt_of_le_of_lt (Nat.le_trans (short_of (m := sts) (rise_nodup (by rw [← es]; exact rise)) fun s hs => ?_) (Nat.le_of_eq ?_)) few
    · have z : stpK s ∈ M.map (·.2) := by rw [es]; exact List.mem_map_of_mem hs
      obtain ⟨p, hp, e⟩ := List.mem_map.mp z
      have z2 : stpK s ∈ sts.map stpK := by rw [← ek, ← e]; exact List.mem_map_of_mem (inM p hp)
      obtain ⟨y, hy, e'⟩ := List.mem_map.mp z2
      rw [← stpK_inj e']; exact hy
    · have z := congrArg List.length ek
      rw [List.length_map, List.length_map] at z
      rw [List.length_map, z]
theorem str_zero (x : Str) : ((x.length : Int) != 0) = !decide (x = Str.ofString "") := by
  rcases Classical.em (x = Str.ofString "") with h | h
  · rw [decide_eq_true h, h]; rfl
  · rw [decide_eq_false h]
    have : x.length ≠ 0 := fun z => h (by
      obtain ⟨c⟩ := x
      have z2 : c = #[] := Array.eq_empty_of_size_eq_zero z
      subst z2
      rfl)
    simp; omega
theorem take_succ_mem {α : Type} {l : List α} {i : Nat} {x : α} (h : l[i]? = some x) (y : α) : y ∈ l.take (i + 1) ↔ y ∈ l.take i ∨ y = x := by
  rw [List.take_add_one, h, List.mem_append]
  simp
theorem Row.get {H : Hp} {vs : List V} {sts : List Stp} (h : Row H vs sts) : ∀ {i : Nat} {x : V}, vs[i]? = some x → ∃ s, sts[i]? = some s ∧ ∃ p, x = .ref p ∧ H p = some (.tup (stepV s)) := by
  unfold Row at h
  induction h with
  | nil => intro i x hx; simp at hx
  | @cons y s ys ss h t ih =>
    intro i x hx
    cases i with
    | zero => cases hx; exact ⟨s, rfl, h⟩
    | succ i => exact ih hx
theorem Row.length {H : Hp} {vs : List V} {sts : List Stp} (h : Row H vs sts) : vs.length = sts.length := PySem.Paired.length (show PySem.Paired _ _ _ from h)
/-- sorted({step[j] for step in self.steps if step[j]}) -/
theorem texts_value {K : PySem.W.Frag} {P : Program} {w : World} {H : Hp} {R : VK} {C p dx sA : Addr} {fs : List (Str × V)} {vs : List V} {sts : List Stp} {f : Stp → Str} {j : Int} {v1 v2 v3 v4 : Option V} (hf : ∀ s, atI (stepV s) j = some (.str (f s)))
    (hp : H p = some (.ins C dx fs)) (cl : Cls K C) (na : NoAttr K C "steps") (lk : fs.lookup ("steps" : Str) = some (.ref sA)) (hs : H sA = some (.tup vs)) (row : Row H vs sts) (few : sts.length < 64) (lens : ∀ s ∈ sts, (f s).length ≤ sizeLine)
    (k : ∀ (H' : Hp) (q : Addr) (ks : List Str), Same H H' → H q = none → H' q = some (.lst (ks.map V.str)) → Texts f sts ks → R (.ref q) H') :
    tCB (MX.rSortedQ P w) (tCons (MX.tSetQ P w (iTup K (tFld K (tVar 0) "steps")) (gName 4) (tTru K (tOp (rIxT K) (tVar 4) (tC (V.int j)))) (tOp (rIxT K) (tVar 4) (tC (V.int j))) (List.map (fun x => x.2) [(Str.ofString "step", 4)])) tNil)
      [some (.ref p), v1, v2, v3, v4, none] H R := by
  refine ⟨_, rfl, p, C, dx, _, _, rfl, hp, cl, na, lk, sA, rfl, ⟨_, SqT.of hs⟩, fun D hD => MX.setq_tup (K := K) (a := sA) (xs := vs) (fun i H' => ∃ S n, H' D = some (MX.SetQO P w D S n) ∧ n ≤ i ∧ (∀ k : Key, S k = true ↔ ∃ s ∈ sts.take i, f s ≠ Str.ofString "" ∧ k = .inr (f s)) ∧ Same H H')
    ⟨_, _, upd_same, Nat.le_refl _, fun k => ⟨fun z => absurd z Bool.false_ne_true, fun ⟨s, z, _⟩ => absurd z (by simp)⟩, same_new hD⟩ (fun i H' _ ⟨_, _, _, _, _, e⟩ => SqT.of (e _ _ hs)) ?_ ?_⟩
  · rintro i x H1 hx ⟨S, n, hS, le, mem, e1⟩
    obtain ⟨s, hsi, q, rfl, hq⟩ := row.get hx
    have hq1 := e1 _ _ hq
    have hsm := List.mem_of_getElem? hsi
    have lt : i < sts.length := (List.getElem?_eq_some_iff.mp hsi).1
    refine ⟨rfl, _, rfl, q, _, j, _, rfl, rfl, SqT.of hq1, hf s, _, ⟨lens s hsm, rfl⟩, ?_⟩
    rw [str_zero]
    rcases Classical.em (f s = Str.ofString "") with c | c
    · rw [decide_eq_true c]
      refine iteF ⟨S, n, hS, by omega, fun k => ?_, e1⟩
      rw [mem k]
      constructor
      · rintro ⟨t, ht, z⟩
        exact ⟨t, (take_succ_mem hsi t).mpr (.inl ht), z⟩
      · rintro ⟨t, ht, z1, z2⟩
        rcases (take_succ_mem hsi t).mp ht with ht | rfl
        · exact ⟨t, ht, z1, z2⟩
        · exact absurd c z1
    · rw [decide_eq_false c]
      refine iteT ⟨_, rfl, q, _, j, _, rfl, rfl, SqT.of hq1, hf s, .inr (f s), S, n, rfl, hS, Nat.lt_of_lt_of_le (show n + 1 < 4096 by omega) (Nat.le_refl _), _, _, upd_same, ?_, fun k => ?_, fun b o z => ?_⟩
      · split <;> omega
      · rw [Bool.or_eq_true, mem k]
        constructor
        · rintro (⟨t, ht, z⟩ | z)
          · exact ⟨t, (take_succ_mem hsi t).mpr (.inl ht), z⟩
          · exact ⟨s, (take_succ_mem hsi s).mpr (.inr rfl), c, of_decide_eq_true z⟩
        · rintro ⟨t, ht, z1, z2⟩
          rcases (take_succ_mem hsi t).mp ht with ht | rfl
          · exact .inl ⟨t, ht, z1, z2⟩
          · exact .inr (decide_eq_true z2)
      · rw [upd_ne (ne_of_none z hD)]
        exact e1 _ _ z
  · rintro H1 ⟨S, n, hS, le, mem, e1⟩
    have el : vs.length = sts.length := row.length
    rw [el, List.take_length] at mem
    refine ⟨D, S, n, false, rfl, hS, fun k hk => ?_, fun M q up hM hMl hq => ?_⟩
    · obtain ⟨s, _, _, e⟩ := (mem k).mp hk
      rw [e]; rfl
    · have tx : ∃ ks : List Str, M = ks.map .inr := by
        clear up
        have each : ∀ k ∈ M, ∃ t, k = .inr t := fun k hk => by
          obtain ⟨s, _, _, e⟩ := (mem k).mp ((hM k).mp hk)
          exact ⟨_, e⟩
        clear hM hMl
        induction M with
        | nil => exact ⟨[], rfl⟩
        | cons a M ih =>
          obtain ⟨t, rfl⟩ := each a (List.mem_cons_self ..)
          obtain ⟨ks, rfl⟩ := ih fun k hk => each k (List.mem_cons_of_mem _ hk)
          exact ⟨t :: ks, rfl⟩
      obtain ⟨ks, rfl⟩ := tx
      refine k _ q ks (e1.trans (same_new hq)) (e1.free hq) (by rw [upd_same, List.map_map]; rfl) ⟨up, fun t => ?_⟩
      have z := (hM (.inr t)).trans (mem (.inr t))
      have z0 : (Sum.inr t : Key) ∈ ks.map Sum.inr ↔ t ∈ ks := by
        constructor
        · intro h
          obtain ⟨y, hy, e⟩ := List.mem_map.mp h
          cases e; exact hy
        · exact fun h => List.mem_map_of_mem h
      rw [← z0, z]
      constructor
      · rintro ⟨s, hs, c, e⟩
        cases e
        exact ⟨c, s, hs, rfl⟩
      · rintro ⟨c, s, hs, rfl⟩
        exact ⟨s, hs, c, rfl⟩
end K1
end
section
/-! The rows by state, the known steps. -/
namespace K1
open PySem L2
open MX (Rise Up)
theorem at_0 (s : Stp) : atI (stepV s) 0 = some (.int s.a) := rfl
theorem at_1 (s : Stp) : atI (stepV s) 1 = some (.str s.k) := rfl
theorem at_2 (s : Stp) : atI (stepV s) 2 = some (.str s.s) := rfl
theorem at_3 (s : Stp) : atI (stepV s) 3 = some (.int s.g) := rfl
/-- [[] for _ in range(many)] -/
theorem rows_value {H : Hp} {R : VK} {p : Addr} {many : Int} {v2 v3 v4 : Option V} (m1 : 1 ≤ many) (m2 : many ≤ 3000)
    (k : ∀ (H' : Hp) (D : Addr) (rows : List Addr), Same H H' → H D = none → H' D = some (.lst (rows.map V.ref)) → (rows.length : Int) = many → rows.Nodup → (∀ r ∈ rows, H' r = some (.lst []) ∧ H r = none ∧ r ≠ D) → R (.ref D) H') :
    tLc (iRng1 (tCons (tVar 1) tNil)) (gName 5) tYes (tLst tNil) (List.map (fun x => x.2) [(Str.ofString "_", 5)]) [some (.ref p), some (.int many), v2, v3, v4, none] H R := by
  refine ⟨_, rfl, many, rfl, by omega, by omega, fun D hD => lc_range (lo := 0) (n := many.toNat) (fun i H' => ∃ rows : List Addr, H' D = some (.lst (rows.map V.ref)) ∧ rows.length = i ∧ rows.Nodup ∧ (∀ r ∈ rows, H' r = some (.lst []) ∧ H r = none ∧ r ≠ D) ∧ Same H H')
    ⟨[], upd_same, rfl, List.nodup_nil, fun r h => absurd h (by simp), same_new hD⟩ ?_ ?_⟩
  · rintro i H1 hi ⟨rows, h1, h2, h3, h4, e1⟩
    refine ⟨rfl, Nat.zero_le _, fun l hl => ⟨rows.map V.ref, ?_, ?_, rows ++ [l], ?_, by rw [List.length_append, h2]; rfl, ?_, fun r hr => ?_, fun b o z => ?_⟩⟩
    · rw [upd_ne (ne_of_none h1 hl)]; exact h1
    · rw [List.length_map, h2, sizeLine_eq]; omega
    · rw [upd_same, List.map_append]; rfl
    · refine List.nodup_append.mpr ⟨h3, by simp, fun r hr s hs e => ?_⟩
      rw [List.mem_singleton.mp hs] at e
      rw [e] at hr
      rw [(h4 l hr).1] at hl
      cases hl
    · rcases List.mem_append.mp hr with hr | hr
      · obtain ⟨a, b, c⟩ := h4 r hr
        refine ⟨?_, b, c⟩
        rw [upd_ne c, upd_ne (ne_of_none a hl)]; exact a
      · rw [List.mem_singleton.mp hr]
        have nlD : l ≠ D := fun z => by rw [z, h1] at hl; cases hl
        exact ⟨by rw [upd_ne nlD, upd_same], e1.free hl, nlD⟩
    · rw [upd_ne (ne_of_none z hD), upd_ne (ne_of_none (e1 _ _ z) hl)]
      exact e1 _ _ z
  · rintro H1 ⟨rows, h1, h2, h3, h4, e1⟩
    exact k H1 D rows e1 hD h1 (by rw [h2]; omega) h3 h4
/-- {step: True for step in self.steps} -/
theorem known_value {K : PySem.W.Frag} {H : Hp} {R : VK} {C p dx sA : Addr} {fs : List (Str × V)} {vs : List V} {sts : List Stp} {v1 v2 v3 v4 : Option V}
    (hp : H p = some (.ins C dx fs)) (cl : Cls K C) (na : NoAttr K C "steps") (lk : fs.lookup ("steps" : Str) = some (.ref sA)) (hs : H sA = some (.tup vs)) (row : Row H vs sts) (few : sts.length < 64)
    (k : ∀ (H' : Hp) (D : Addr) (kvs : List (List Key × V)), Same H H' → H D = none → H' D = some (.dT kvs) → (∀ k, (valV kvs k).isSome = true ↔ k ∈ sts.map stpK) → R (.ref D) H') :
    MX.tDcT (iTup K (tFld K (tVar 0) "steps")) (gName 4) tYes (tVar 4) (tC (V.bl true)) (List.map (fun x => x.2) [(Str.ofString "step", 4)]) [some (.ref p), v1, v2, v3, v4, none] H R := by
  refine ⟨_, rfl, p, C, dx, _, _, rfl, hp, cl, na, lk, sA, rfl, ⟨_, SqT.of hs⟩, fun D hD => MX.dct_tup (K := K) (a := sA) (xs := vs) (fun i H' => ∃ kvs : List (List Key × V), H' D = some (.dT kvs) ∧ kvs.length ≤ i ∧ (∀ k, (valV kvs k).isSome = true ↔ k ∈ (sts.take i).map stpK) ∧ Same H H')
    ⟨[], upd_same, Nat.le_refl _, fun k => ⟨fun z => absurd z Bool.false_ne_true, fun z => absurd z (by simp)⟩, same_new hD⟩ (fun i H' _ ⟨_, _, _, _, e⟩ => SqT.of (e _ _ hs)) ?_ ?_⟩
  · rintro i x H1 hx ⟨kvs, h1, h2, h3, e1⟩
    obtain ⟨s, hsi, q, rfl, hq⟩ := row.get hx
    have lt : i < sts.length := (List.getElem?_eq_some_iff.mp hsi).1
    refine ⟨rfl, _, rfl, kvs, stpK s, q, rfl, e1 _ _ hq, h1, by rw [sizeLine_eq]; omega, _, upd_same, ?_, fun k => ?_, fun b o z => ?_⟩
    · have := length_putK kvs (stpK s) (V.bl true); omega
    · rw [valV_put]
      rw [List.mem_map]
      rcases Classical.em (k = stpK s) with c | c
      · rw [if_pos c]
        exact ⟨fun _ => ⟨s, (take_succ_mem hsi s).mpr (.inr rfl), c.symm⟩, fun _ => rfl⟩
      · rw [if_neg c, h3 k, List.mem_map]
        constructor
        · rintro ⟨t, ht, e⟩
          exact ⟨t, (take_succ_mem hsi t).mpr (.inl ht), e⟩
        · rintro ⟨t, ht, e⟩
          rcases (take_succ_mem hsi t).mp ht with ht | rfl
          · exact ⟨t, ht, e⟩
          · exact absurd e.symm c
    · rw [upd_ne (ne_of_none z hD)]
      exact e1 _ _ z
  · rintro H1 ⟨kvs, h1, h2, h3, e1⟩
    rw [row.length, List.take_length] at h3
    exact k H1 D kvs e1 hD h1 h3
theorem ref_at {rows : List Addr} {i : Int} (h0 : 0 ≤ i) (h : i < rows.length) : ∃ r, rows[i.toNat]? = some r ∧ atI (rows.map V.ref) i = some (.ref r) := by
  have e : i = (i.toNat : Int) := by omega
  have hlt : i.toNat < rows.length := by omega
  refine ⟨rows[i.toNat], List.getElem?_eq_getElem hlt, ?_⟩
  have z : atI (rows.map V.ref) ((i.toNat : Nat) : Int) = some (.ref rows[i.toNat]) := atI_nat (by rw [List.getElem?_map, List.getElem?_eq_getElem hlt]; rfl)
  rwa [← e] at z
theorem filter_take {sts : List Stp} {i : Nat} {s : Stp} (h : sts[i]? = some s) (f : Stp → Bool) : (sts.take (i + 1)).filter f = (sts.take i).filter f ++ (if f s = true then [s] else []) := by
  rw [List.take_add_one, h, List.filter_append]
  congr 1
  cases e : f s with
  | true => simp [e]
  | false => simp [e]
/-- for step in self.steps: self.by_state[step[0]].append(step) -/
theorem fill_rows {K : PySem.W.Frag} {H : Hp} {D : Ends} {C p dx sA bA : Addr} {fs : List (Str × V)} {vs : List V} {sts : List Stp} {rows : List Addr} {many : Int} {v1 v2 v3 v4 : Option V}
    (hp : H p = some (.ins C dx fs)) (cl : Cls K C) (na : NoAttr K C "steps") (nb : NoAttr K C "by_state") (lk : fs.lookup ("steps" : Str) = some (.ref sA)) (lb : fs.lookup ("by_state" : Str) = some (.ref bA))
    (hs : H sA = some (.tup vs)) (row : Row H vs sts) (oks : ∀ s ∈ sts, OkS many s) (few : sts.length < 64) (hb : H bA = some (.lst (rows.map V.ref))) (len : (rows.length : Int) = many) (nd : rows.Nodup) (new : ∀ r ∈ rows, H r = some (.lst []) ∧ r ≠ bA)
    (k : ∀ (H' : Hp) (v : Option V), (∀ b o, H b = some o → b ∉ rows → H' b = some o) → (∀ (j : Nat) r, rows[j]? = some r → ∃ ws, H' r = some (.lst ws) ∧ Row H' ws (sts.filter fun s => decide (s.a = j))) → (∀ b, H b = none → H' b = none) → D.nx [some (.ref p), v1, v2, v3, v, none] H') :
    tFor (iTup K (tFld K (tVar 0) "steps")) (gName 4) (tDrop (tBM K "list" rAppend (tOp (rIxL K) (tFld K (tVar 0) "by_state") (tOp (rIxT K) (tVar 4) (tC (V.int 0)))) (tCons (tVar 4) tNil))) D [some (.ref p), v1, v2, v3, v4, none] H := by
  have npr : p ∉ rows := fun z => by have q := (new p z).1; rw [hp] at q; cases q
  have nsr : sA ∉ rows := fun z => by have q := (new sA z).1; rw [hs] at q; cases q
  have nbr : bA ∉ rows := fun z => (new bA z).2 rfl
  refine ⟨_, rfl, p, C, dx, _, _, rfl, hp, cl, na, lk, sA, rfl, ⟨_, SqT.of hs⟩, for_tup (K := K) (a := sA) (xs := vs) (fun i σ H' => ∃ v, σ = [some (.ref p), v1, v2, v3, v, none] ∧ (∀ b o, H b = some o → b ∉ rows → H' b = some o) ∧
    (∀ (j : Nat) r, rows[j]? = some r → ∃ ws, H' r = some (.lst ws) ∧ ws.length ≤ i ∧ Row H' ws ((sts.take i).filter fun s => decide (s.a = j))) ∧ ∀ b, H b = none → H' b = none)
    ⟨_, rfl, fun b o z _ => z, fun j r hr => ⟨[], (new r (List.mem_of_getElem? hr)).1, Nat.le_refl _, .nil⟩, fun b z => z⟩ (fun i σ H' _ ⟨_, _, e, _⟩ => SqT.of (e _ _ hs nsr)) ?_ ?_⟩
  · rintro i x σ H1 hx ⟨v, rfl, e1, rw1, fr⟩
    obtain ⟨s, hsi, q, rfl, hq⟩ := row.get hx
    have lt : i < sts.length := (List.getElem?_eq_some_iff.mp hsi).1
    have ok := oks s (List.mem_of_getElem? hsi)
    have nqr : q ∉ rows := fun z => by have y := (new q z).1; rw [hq] at y; cases y
    have ha : s.a = (s.a.toNat : Int) := by have := ok.1; omega
    have hlt : s.a.toNat < rows.length := by have := ok.2.1; have := ok.1; omega
    obtain ⟨r0, hr0, hit⟩ := ref_at (rows := rows) ok.1 (by have := ok.2.1; omega)
    have hm0 := List.mem_of_getElem? hr0
    obtain ⟨ws, hw, wl, wr⟩ := rw1 s.a.toNat r0 hr0
    refine ⟨_, rfl, p, C, dx, _, _, rfl, e1 _ _ hp npr, cl, nb, lb, _, rfl, q, _, _, _, rfl, rfl, SqT.of (e1 _ _ hq nqr), at_0 s, bA, _, _, _, rfl, rfl, SqL.of (e1 _ _ hb nbr), hit,
      .inl ⟨rfl, _, SqL.of hw⟩, _, rfl, r0, ws, _, rfl, rfl, hw, by rw [sizeLine_eq]; omega, _, rfl, fun b o z nb => ?_, fun j r hr => ?_, fun b z => ?_⟩
    · rw [upd_ne (fun y => nb (by rw [y]; exact hm0))]
      exact e1 _ _ z nb
    · have tk : ∀ a ts, H1 a = some (.tup ts) → upd H1 r0 (.lst (ws ++ [.ref q])) a = some (.tup ts) := fun a ts z => by
        rw [upd_ne (ne_of z hw (by intro y; cases y))]; exact z
      rcases Classical.em (j = s.a.toNat) with c | c
      · subst c
        rw [hr0] at hr
        cases hr
        refine ⟨_, upd_same, by rw [List.length_append]; show ws.length + 1 ≤ i + 1; omega, ?_⟩
        rw [filter_take hsi, if_pos (decide_eq_true ha)]
        exact paired_app (wr.keep tk) (.cons ⟨q, rfl, tk _ _ (e1 _ _ hq nqr)⟩ .nil)
      · obtain ⟨ws2, h2, l2, r2⟩ := rw1 j r hr
        have ner : r ≠ r0 := fun z => c (by
          obtain ⟨hj, ej⟩ := List.getElem?_eq_some_iff.mp hr
          obtain ⟨h0, e0⟩ := List.getElem?_eq_some_iff.mp hr0
          have same := ej.trans (z.trans e0.symm)
          rcases Nat.lt_trichotomy j s.a.toNat with y | y | y
          · exact absurd same (List.pairwise_iff_getElem.mp nd _ _ hj h0 y)
          · exact y
          · exact absurd same.symm (List.pairwise_iff_getElem.mp nd _ _ h0 hj y))
        refine ⟨ws2, by rw [upd_ne ner]; exact h2, Nat.le_succ_of_le l2, ?_⟩
        have na : ¬ s.a = (j : Int) := fun z => c (by omega)
        rw [filter_take hsi, if_neg (by rw [decide_eq_false na]; exact Bool.false_ne_true), List.append_nil]
        exact r2.keep tk
    · have hr := new _ (hm0)
      rw [upd_ne (fun y => by rw [y] at z; rw [z] at hr; cases hr.1)]
      exact fr b z
  · rintro σ H1 ⟨v, rfl, e1, rw1, fr⟩
    refine k H1 v e1 (fun j r hr => ?_) fr
    obtain ⟨ws, a, b, c⟩ := rw1 j r hr
    rw [row.length, List.take_length] at c
    exact ⟨ws, a, c⟩
end K1
end
section
/-! The machine is made. -/
namespace K1
open PySem L2
open MX (Rise Up)
structure TxtI (P : Program) (K : PySem.W.Frag) (mg : Str → Option Value) (C CB fB fN fS : Addr) (tM : Nat) : Prop where
  cl : Cls K C
  n_many : NoAttr K C "many"
  n_steps : NoAttr K C "steps"
  n_kinds : NoAttr K C "kinds"
  n_words : NoAttr K C "words"
  n_by_state : NoAttr K C "by_state"
  n_known : NoAttr K C "_known"
  e_BadMachine : PySem.PlX.Txt P K mg "BadMachine" CB fB
  g_is_number : mg "is_number" = some (.ref fN)
  k_is_number : PySem.W.keepIn K (.ref fN) = true
  g_is_step : mg "is_step" = some (.ref fS)
  k_is_step : PySem.W.keepIn K (.ref fS) = true
  g_MOST_STATES : mg "MOST_STATES" = some (.int 3000 tM)
  isinstance : mg "isinstance" = none
  list : mg "list" = none
  tuple : mg "tuple" = none
  enumerate : mg "enumerate" = none
  sorted : mg "sorted" = none
  set : mg "set" = none
  range : mg "range" = none
/-- all else stands -/
def Off (p : Addr) (H H' : Hp) : Prop := ∀ b o, H b = some o → b ≠ p → H' b = some o
theorem Off.same {p : Addr} {H H' : Hp} (e : Same H H') : Off p H H' := fun b o z _ => e b o z
theorem Off.trans {p : Addr} {H H1 H2 : Hp} (a : Off p H H1) (b : Off p H1 H2) : Off p H H2 := fun c o z n => b c o (a c o z n) n
theorem Off.upd {p : Addr} {H : Hp} {o : HO} : Off p H (upd H p o) := fun b u z n => by rw [upd_ne n]; exact z
theorem Off.row {p C dx : Addr} {fs : List (Str × V)} {H H' : Hp} {xs : List V} {sts : List Stp} (e : Off p H H') (hp : H p = some (.ins C dx fs)) (r : Row H xs sts) : Row H' xs sts := r.keep fun q ts z => e q _ z (ne_of z hp (by intro y; cases y))
section
variable {K : PySem.W.Frag} {ta tv : TE} {f : Str} {t u : TS} {D : Ends} {σ : L2.St} {H : Hp}
theorem into_fld (h : tv σ H fun y H1 => ta σ H1 fun x H2 => ∃ a C dx fs, x = .ref a ∧ H2 a = some (.ins C dx fs) ∧ Cls K C ∧ NoAttr K C f ∧ fs.length < 1000 ∧ u D σ (upd H2 a (.ins C dx (putF f y fs)))) : tSeq (sFld K ta tv f) u D σ H := h
theorem last_fld (h : tv σ H fun y H1 => ta σ H1 fun x H2 => ∃ a C dx fs, x = .ref a ∧ H2 a = some (.ins C dx fs) ∧ Cls K C ∧ NoAttr K C f ∧ fs.length < 1000 ∧ D.nx σ (upd H2 a (.ins C dx (putF f y fs)))) : sFld K ta tv f D σ H := h
theorem into (h : t { D with nx := u D } σ H) : tSeq t u D σ H := h
end
section
variable {P : Program} {w : World} {K : PySem.W.Frag} {mg : Str → Option Value} {base : Heap}
abbrev nMI : List Str := ["self", "many", "steps", "place", "step", "_"]
theorem scMI : FnScope nMI ["self", "many", "steps"] (defScope sMInit) := ⟨rfl, rfl, rfl, by decide +kernel, rfl, by decide +kernel, by decide +kernel⟩
theorem ok_mInit {f C CB fB fN fS : Addr} {tM : Nat} {fd fdN fdS : FuncData} (F : Fun K "__init__" "Machine.__init__" sMInit f fd) (T : TxtI P K mg C CB fB fN fS tM)
    (G_is_number : FnOk P w K mg base CX0 1 fN fdN ["value"] (spNum K)) (b_is_number : Binds K fdN ["value"] []) (G_is_step : FnOk P w K mg base CX0 3 fS fdS ["many", "step"] (spIsStep K)) (b_is_step : Binds K fdS ["many", "step"] []) :
    FnOk P w K mg base (L2.CX P w) 4 f fd ["self", "many", "steps"] (spMInit K C CB) := by
  refine F.okX scMI (fun vs H Q E h => ?_) (fun cdv A outer s H vs Q E hr h => ?_)
  · obtain ⟨p, dx, mv, sv, rfl, _⟩ := h
    rfl
  · obtain ⟨p, dx, mv, sv, rfl, hp, h⟩ := h
    have hu := hr.units
    have nd := scMI.nd
    have hr_is_number : Room 1 _ := hr.mono (by decide)
    have hr_BadMachine : Room 1 _ := hr.mono (by decide)
    have hr_is_step : Room 3 _ := hr
    refine ⟨_, (pss_cons (ps_if (PW.pt (pw_or (pt_not (pt_val (pe_call G_is_number hr_is_number (by rfl) T.g_is_number T.k_is_number b_is_number .nil pass0 (pa_cons (pv 1) pa_nil)))) (pw_or (pt_not (pt_chain op_le op_le pe_int (pv 1) (pe_glob (v := .int 3000) (by rfl) T.g_MOST_STATES ⟨_, rfl⟩))) (pw_or1 (pt_not (pt_val (pe_callB call_isiT (by rfl) T.isinstance (by decide +kernel) (pa_cons (pv 2) (pa_cons (pe_tup (pa_cons (pe_bltn (v := .ty "list") (by rfl) T.list (by decide +kernel) rfl) (pa_cons (pe_bltn (v := .ty "tuple") (by rfl) T.tuple (by decide +kernel) rfl) pa_nil))) pa_nil)))))))))
        (pss_one (ps_raise rfl (takes_of rfl rfl rfl rfl) (pmk_pl T.e_BadMachine hr_BadMachine (pa_cons pe_non pa_nil) (by rfl))))
        pss_nil)
      (pss_cons (ps_for (by first | exact PassesOwn.never | exact passes_of rfl) rfl (MX.pi_enumS (by rfl) T.enumerate (pa_cons (pv 2) pa_nil)) (pg_tup rfl (pgs_cons (pg_name (i := 3) nd rfl (Or.inl rfl)) (pgs_cons (pg_name (i := 4) nd rfl (Or.inl rfl)) pgs_nil)))
        (pss_one (ps_if (pt_not (pt_val (pe_call G_is_step hr_is_step (by rfl) T.g_is_step T.k_is_step b_is_step .nil pass0 (pa_cons (pv 1) (pa_cons (pv 4) pa_nil)))))
          (pss_one (ps_raise rfl (takes_of rfl rfl rfl rfl) (pmk_pl T.e_BadMachine hr_BadMachine (pa_cons (pv 3) pa_nil) (by rfl))))
          pss_nil)))
      (PSs.nox (pss_cons (ps_fld (pv 0) (pv 1) rfl)
      (pss_cons (ps_fld (pv 0) (pe_callTy call_tuple_of (by rfl) T.tuple (by decide +kernel) (pa_cons (pe_callB (MX.cr_sortedM rfl hu) (by rfl) T.sorted (by decide +kernel) (pa_cons (pe_callTy (MX.cr_setM rfl hu) (by rfl) T.set (by decide +kernel) (pa_cons (pv 2) pa_nil)) pa_nil)) pa_nil)) rfl)
      (pss_cons (ps_fld (pv 0) (pe_callB (MX.cr_sortedQ rfl hu) (by rfl) T.sorted (by decide +kernel) (pa_cons (MX.pe_setQ (own := [("step", 4)]) (by rfl) nd (pi_tup (pe_fld (pv 0) rfl)) (blkOk_by (N := nMI) (sc := defScope sMInit) (by decide +kernel)) (fun _ _ _ _ _ => (pg_name (i := 4) nd rfl (Or.inl rfl))) (fun _ _ _ _ _ => pts_one (pt_tru (K := K) rfl (pe_ix (ix_tupK (K := K) rfl) (pv 4) pe_int (fun _ _ => rfl)) (by intro _; rfl))) (fun _ _ _ _ _ => (pe_ix (ix_tupK (K := K) rfl) (pv 4) pe_int (fun _ _ => rfl)))) pa_nil)) rfl)
      (pss_cons (ps_fld (pv 0) (pe_callB (MX.cr_sortedQ rfl hu) (by rfl) T.sorted (by decide +kernel) (pa_cons (MX.pe_setQ (own := [("step", 4)]) (by rfl) nd (pi_tup (pe_fld (pv 0) rfl)) (blkOk_by (N := nMI) (sc := defScope sMInit) (by decide +kernel)) (fun _ _ _ _ _ => (pg_name (i := 4) nd rfl (Or.inl rfl))) (fun _ _ _ _ _ => pts_one (pt_tru (K := K) rfl (pe_ix (ix_tupK (K := K) rfl) (pv 4) pe_int (fun _ _ => rfl)) (by intro _; rfl))) (fun _ _ _ _ _ => (pe_ix (ix_tupK (K := K) rfl) (pv 4) pe_int (fun _ _ => rfl)))) pa_nil)) rfl)
      (pss_cons (ps_fld (pv 0) (pe_lc (own := [("_", 5)]) (by rfl) nd (pi_range1 (by rfl) T.range (pa_cons (pv 1) pa_nil)) (blkOk_by (N := nMI) (sc := defScope sMInit) (by decide +kernel)) (fun _ _ _ _ _ => (pg_name (i := 5) nd rfl (Or.inl rfl))) (fun _ _ _ _ _ => pts_nil) (fun _ _ _ _ _ => (pe_lst pa_nil))) rfl)
      (pss_cons (ps_for (by first | exact PassesOwn.never | exact passes_of rfl) rfl (pi_tup (pe_fld (pv 0) rfl)) (pg_name (i := 4) nd rfl (Or.inl rfl))
        (pss_one (ps_expr (pe_bm PySem.F.plainAttrs_list PySem.F.slot_list_append PySem.F.type_list_append mt_append (pe_ix ix_list (pe_fld (pv 0) rfl) (pe_ix ix_tup (pv 4) pe_int (fun _ _ => rfl)) (fun _ _ => rfl)) (pa_cons (pv 4) pa_nil)))))
      (pss_one (ps_fld (pv 0) (MX.pe_dcT (own := [("step", 4)]) (by rfl) (Nat.lt_of_le_of_lt (Nat.le_add_right _ 64) hu) nd (pi_tup (pe_fld (pv 0) rfl)) (blkOk_by (N := nMI) (sc := defScope sMInit) (by decide +kernel)) (fun _ _ _ _ _ => (pg_name (i := 4) nd rfl (Or.inl rfl))) (fun _ _ _ _ _ => pts_nil) (fun _ _ _ _ _ => (pv 4)) (fun _ _ _ _ _ => pe_bl)) rfl))))))))))), ?_⟩
    rcases h with ⟨tm, ts, plm, pls, bad, kb⟩ | ⟨many, a, xs, rfl, m1, m2, rfl, hs, few, h⟩
    · refine head_reads rfl rfl plm pls fun H' e => ?_
      rw [bad]
      exact iteT ⟨_, rfl, .inl rfl, fun d hd => kb d H' e hd⟩
    · have pls : ∃ ts, Pl K H (.ref a) ts ∧ (ts = "list" ∨ ts = "tuple") := hs.elim (fun h => ⟨_, .lst h, .inl rfl⟩) fun h => ⟨_, .tup h, .inr rfl⟩
      obtain ⟨ts, pls, hts⟩ := pls
      refine head_reads rfl rfl (.int many) pls fun H0 e0 => ?_
      have ok : headOk (.int many) ts = true := by
        rw [headOk_int, decide_eq_true m1, decide_eq_true m2]
        rcases hts with rfl | rfl <;> rfl
      rw [ok]
      refine iteF ?_
      have enter : ∀ n, n ≤ xs.length → (∀ x ∈ xs, Look K H x) → (∀ j x, j < n → xs[j]? = some x → stepB H many x = true) → (n < xs.length → (∀ x, xs[n]? = some x → stepB H many x = false) ∧ badAt CB H E (.int n)) → ∀ D : Ends,
          (n = xs.length → ∀ H' v3 v4, Same H H' → D.nx [some (.ref p), some (.int many), some (.ref a), v3, v4, none] H') →
          tFor (MX.iEnumS K (tCons (tVar 2) tNil)) (gTup K 2 (gCons (gName 3) (gCons (gName 4) gNil))) (checkBody K CB E) D [some (.ref p), some (.int many), some (.ref a), none, none, none] H0 := fun n hn all gd bad D fin => by
        rcases hs with hs | hs
        · exact ⟨_, rfl, a, xs, rfl, .inl ⟨SqL.of (e0 _ _ hs), check_loop walk_enum (fun H' e => SqL.of (e _ _ hs)) e0 all gd hn few bad fin⟩⟩
        · exact ⟨_, rfl, a, xs, rfl, .inr ⟨SqT.of (e0 _ _ hs), check_loop walk_enumT (fun H' e => SqT.of (e _ _ hs)) e0 all gd hn few bad fin⟩⟩
      rcases h with ⟨i, hi, all, gd, bad, kb⟩ | ⟨sts, row, oks, k⟩
      · exact enter i (Nat.le_of_lt hi) all gd (fun _ => ⟨bad, kb⟩) _ fun e => absurd e (Nat.ne_of_lt hi)
      · refine enter xs.length (Nat.le_refl _) (fun x hx => ?_) (fun j x hj hx => ?_) (fun h => absurd h (Nat.lt_irrefl _)) _ fun _ H1 v3 v4 e1 => ?_
        · obtain ⟨s, hs, q, rfl, hq⟩ := row.each x hx
          exact look_step hq (oks s hs)
        · obtain ⟨s, hs, q, rfl, hq⟩ := row.each x (List.mem_of_getElem? hx)
          exact stepB_ok hq (oks s hs)
        · have hp1 := e1 _ _ hp
          have row1 := row.same e1
          refine ⟨_, rfl, _, rfl, p, C, dx, _, rfl, hp1, T.cl, T.n_many, by decide, ?_⟩
          generalize hF1 : putF "many" (V.int many) [] = F1
          have l1 : F1.length ≤ 1 := by rw [← hF1]; exact length_putF _ _ _
          generalize hH2 : upd H1 p (.ins C dx F1) = H2
          have hp2 : H2 p = some (.ins C dx F1) := by rw [← hH2, upd_same]
          have o12 : Off p H1 H2 := by rw [← hH2]; exact .upd
          have ha2 : H2 a = some (.lst xs) ∨ H2 a = some (.tup xs) := hs.imp (fun h => o12 _ _ (e1 _ _ h) (ne_of h hp (by intro y; cases y))) fun h => o12 _ _ (e1 _ _ h) (ne_of h hp (by intro y; cases y))
          refine into_fld (steps_value (σ := [some (.ref p), some (.int many), some (.ref a), v3, v4, none]) rfl ha2 few (o12.row hp1 row1) fun H3 sA vs sts' e3 nA hA rA rise mem few' => ?_)
          have oks' : ∀ s ∈ sts', OkS many s := fun s h => oks s ((mem s).mp h)
          have hp3 := e3 _ _ hp2
          have npA : sA ≠ p := ne_of hA hp3 (by intro y; cases y)
          refine ⟨_, rfl, p, C, dx, _, rfl, hp3, T.cl, T.n_steps, by omega, ?_⟩
          generalize hF2 : putF "steps" (V.ref sA) F1 = F2
          have l2 : F2.length ≤ 2 := by rw [← hF2]; exact Nat.le_trans (length_putF _ _ _) (by omega)
          have k2 : F2.lookup ("steps" : Str) = some (.ref sA) := by rw [← hF2, lookup_putF, if_pos rfl]
          generalize hH4 : upd H3 p (.ins C dx F2) = H4
          have hp4 : H4 p = some (.ins C dx F2) := by rw [← hH4, upd_same]
          have o34 : Off p H3 H4 := by rw [← hH4]; exact .upd
          have hA4 := o34 _ _ hA npA
          have rA4 := o34.row hp3 rA
          -- kinds
          refine into_fld (texts_value (f := Stp.k) at_1 hp4 T.cl T.n_steps k2 hA4 rA4 few' (fun s h => wordE_len (oks' s h).2.2.2.2.1) fun H5 kA ks e5 nK hK tK => ?_)
          have hp5 := e5 _ _ hp4
          have npK : kA ≠ p := ne_of hK hp5 (by intro y; cases y)
          refine ⟨_, rfl, p, C, dx, _, rfl, hp5, T.cl, T.n_kinds, by omega, ?_⟩
          generalize hF3 : putF "kinds" (V.ref kA) F2 = F3
          have l3 : F3.length ≤ 3 := by rw [← hF3]; exact Nat.le_trans (length_putF _ _ _) (by omega)
          have k3 : F3.lookup ("steps" : Str) = some (.ref sA) := by rw [← hF3, lookup_putF, if_neg (by decide +kernel)]; exact k2
          generalize hH6 : upd H5 p (.ins C dx F3) = H6
          have hp6 : H6 p = some (.ins C dx F3) := by rw [← hH6, upd_same]
          have o56 : Off p H5 H6 := by rw [← hH6]; exact .upd
          have hA6 := o56 _ _ (e5 _ _ hA4) npA
          have rA6 := o56.row hp5 (rA4.same e5)
          -- words
          refine into_fld (texts_value (f := Stp.s) at_2 hp6 T.cl T.n_steps k3 hA6 rA6 few' (fun s h => wordE_len (oks' s h).2.2.2.2.2) fun H7 wA ws e7 nW hW tW => ?_)
          have hp7 := e7 _ _ hp6
          have npW : wA ≠ p := ne_of hW hp7 (by intro y; cases y)
          refine ⟨_, rfl, p, C, dx, _, rfl, hp7, T.cl, T.n_words, by omega, ?_⟩
          generalize hF4 : putF "words" (V.ref wA) F3 = F4
          have l4 : F4.length ≤ 4 := by rw [← hF4]; exact Nat.le_trans (length_putF _ _ _) (by omega)
          have k4 : F4.lookup ("steps" : Str) = some (.ref sA) := by rw [← hF4, lookup_putF, if_neg (by decide +kernel)]; exact k3
          generalize hH8 : upd H7 p (.ins C dx F4) = H8
          have hp8 : H8 p = some (.ins C dx F4) := by rw [← hH8, upd_same]
          have o78 : Off p H7 H8 := by rw [← hH8]; exact .upd
          have hA8 := o78 _ _ (e7 _ _ hA6) npA
          have rA8 := o78.row hp7 (rA6.same e7)
          -- by_state
          refine into_fld (rows_value m1 m2 fun H9 bA rows e9 nB hB len ndr newr => ?_)
          have hp9 := e9 _ _ hp8
          have npB : bA ≠ p := ne_of hB hp9 (by intro y; cases y)
          refine ⟨_, rfl, p, C, dx, _, rfl, hp9, T.cl, T.n_by_state, by omega, ?_⟩
          generalize hF5 : putF "by_state" (V.ref bA) F4 = F5
          have l5 : F5.length ≤ 5 := by rw [← hF5]; exact Nat.le_trans (length_putF _ _ _) (by omega)
          have k5 : F5.lookup ("steps" : Str) = some (.ref sA) := by rw [← hF5, lookup_putF, if_neg (by decide +kernel)]; exact k4
          have b5 : F5.lookup ("by_state" : Str) = some (.ref bA) := by rw [← hF5, lookup_putF, if_pos rfl]
          generalize hH10 : upd H9 p (.ins C dx F5) = H10
          have hp10 : H10 p = some (.ins C dx F5) := by rw [← hH10, upd_same]
          have o910 : Off p H9 H10 := by rw [← hH10]; exact .upd
          have hA10 := o910 _ _ (e9 _ _ hA8) npA
          have rA10 := o910.row hp9 (rA8.same e9)
          have hB10 := o910 _ _ hB npB
          have npR : ∀ r ∈ rows, r ≠ p := fun r hr => ne_of (newr r hr).1 hp9 (by intro y; cases y)
          refine into (fill_rows hp10 T.cl T.n_steps T.n_by_state k5 b5 hA10 rA10 oks' few' hB10 len ndr (fun r hr => ⟨o910 _ _ (newr r hr).1 (npR r hr), (newr r hr).2.2⟩) fun H11 v4' o11 rw11 fr11 => ?_)
          have nr : ∀ {b o}, H8 b = some o → b ∉ rows := fun {b o} z hr => by have y := (newr b hr).2.1; rw [z] at y; cases y
          have hp11 := o11 _ _ hp10 (nr hp8)
          have hA11 := o11 _ _ hA10 (nr hA8)
          have rA11 : Row H11 vs sts' := rA8.keep fun q ts z => o11 _ _ (o910 _ _ (e9 _ _ z) (ne_of z hp8 (by intro y; cases y))) (nr z)
          have hB11 := o11 _ _ hB10 (fun hr => (newr bA hr).2.2 rfl)
          -- _known
          refine last_fld (known_value hp11 T.cl T.n_steps k5 hA11 rA11 few' fun H12 dA kvs e12 nD hD kn => ?_)
          have hp12 := e12 _ _ hp11
          have npD : dA ≠ p := ne_of hD hp12 (by intro y; cases y)
          refine ⟨_, rfl, p, C, dx, _, rfl, hp12, T.cl, T.n_known, by omega, ?_⟩
          have o8 : Off p H8 (upd H12 p (.ins C dx (putF "_known" (.ref dA) F5))) := fun b o z n => by
            rw [upd_ne n]
            exact e12 _ _ (o11 _ _ (o910 _ _ (e9 _ _ z) n) (nr z))
          have o1213 : Off p H12 (upd H12 p (.ins C dx (putF "_known" (.ref dA) F5))) := .upd
          refine k _ sts' rise mem ⟨dx, sA, kA, wA, bA, dA, ?_, ⟨vs, o8 _ _ hA8 npA, o8.row hp8 rA8⟩, ⟨ks, o8 _ _ (o78 _ _ (e7 _ _ (o56 _ _ hK npK)) npK) npK, tK⟩, ⟨ws, o8 _ _ (o78 _ _ hW npW) npW, tW⟩,
            ⟨rows, o1213 _ _ (e12 _ _ hB11) npB, len, fun j r hr => ?_⟩, kvs, o1213 _ _ hD npD, kn⟩ fun b o z n => ?_
          · rw [upd_same, ← hF5, ← hF4, ← hF3, ← hF2, ← hF1]; rfl
          · obtain ⟨wz, a1, a2⟩ := rw11 j r hr
            exact ⟨wz, o1213 _ _ (e12 _ _ a1) (npR r (List.mem_of_getElem? hr)), o1213.row hp12 (a2.same e12)⟩
          · exact o8 _ _ (o78 _ _ (e7 _ _ (o56 _ _ (e5 _ _ (o34 _ _ (e3 _ _ (o12 _ _ (e1 _ _ z) n)) n)) n)) n) n
end
end K1
end
section
/-! Rows of steps as data. -/
namespace K1
open PySem L2
def dStp (s : Stp) : PyData := MX.ofTup (stpK s)
theorem word_ok {x : Str} (h : wordE (.str x) = true) : PyData.strOk x = true := by
  have z : (decide (x = Str.ofString "") || wordS x) = true := h
  rcases Bool.or_eq_true_iff.mp z with z | z
  · rw [of_decide_eq_true z]; decide +kernel
  · unfold wordS at z
    simp only [Bool.and_eq_true] at z
    have a : x.cps.all (· < 128) = true := z.1.1.2
    unfold PyData.strOk
    rw [Array.all_eq_true] at a ⊢
    intro i hi
    have q := of_decide_eq_true (a i hi)
    exact decide_eq_true (Nat.lt_trans q (by decide))
theorem canLay_stp {s : Stp} (hk : wordE (.str s.k) = true) (hs : wordE (.str s.s) = true) : PyData.canLay0 (dStp s) = true := by
  have a := word_ok hk
  have b := word_ok hs
  simp [dStp, MX.ofTup, stpK, MX.ofKey, PyData.canLay0, PyData.canLayAll0, a, b]
theorem canLay_row : ∀ {sts : List Stp}, (∀ s ∈ sts, wordE (.str s.k) = true ∧ wordE (.str s.s) = true) → PyData.canLayAll0 (sts.map dStp) = true
  | [], _ => rfl
  | s :: sts, h => by
    rw [List.map_cons, PyData.canLayAll0, canLay_stp (h s (List.mem_cons_self ..)).1 (h s (List.mem_cons_self ..)).2, Bool.true_and]
    exact canLay_row fun t ht => h t (List.mem_cons_of_mem _ ht)
theorem depth_row : ∀ sts : List Stp, PyData.depthAll (sts.map dStp) ≤ 1
  | [] => Nat.zero_le _
  | s :: sts => by
    rw [List.map_cons, PyData.depthAll]
    have h1 := depth_row sts
    have h2 : PyData.depth (dStp s) = 1 := by
      unfold dStp MX.ofTup
      rw [PyData.depth, MX.depth_ofKey]
    omega
theorem shaped_list {sts : List Stp} (h : ∀ s ∈ sts, wordE (.str s.k) = true ∧ wordE (.str s.s) = true) : SeqAt.shaped (.list (sts.map dStp)) = true := by
  unfold SeqAt.shaped
  rw [PyData.canLay0, canLay_row h, PyData.depth, Bool.true_and]
  exact decide_eq_true (by have := depth_row sts; omega)
theorem shaped_tup {sts : List Stp} (h : ∀ s ∈ sts, wordE (.str s.k) = true ∧ wordE (.str s.s) = true) : SeqAt.shaped (.tuple (sts.map dStp)) = true := by
  unfold SeqAt.shaped
  rw [PyData.canLay0, canLay_row h, PyData.depth, Bool.true_and]
  exact decide_eq_true (by have := depth_row sts; omega)
theorem dp_row {K : PySem.W.Frag} {H : Hp} {vs : List V} {sts : List Stp} (h : Row H vs sts) : DpAll K H vs (sts.map dStp) := by
  unfold Row at h
  induction h with
  | nil => exact .nil
  | @cons v s vs sts h t ih =>
    obtain ⟨p, rfl, hp⟩ := h
    exact .cons (.tup (SqT.of hp) (.cons (.int _) (.cons (.str _) (.cons (.str _) (.cons (.int _) .nil))))) ih
theorem eqv_list {sts : List Stp} (h : ∀ s ∈ sts, wordE (.str s.k) = true ∧ wordE (.str s.s) = true) : PyData.eqv (.list (sts.map dStp)) (.list (sts.map dStp)) = true := SeqAt.eqv_refl _ (by rw [PyData.canLay0, canLay_row h])
theorem eqv_tup {sts : List Stp} (h : ∀ s ∈ sts, wordE (.str s.k) = true ∧ wordE (.str s.s) = true) : PyData.eqv (.tuple (sts.map dStp)) (.tuple (sts.map dStp)) = true := SeqAt.eqv_refl _ (by rw [PyData.canLay0, canLay_row h])
end K1
end
section
/-! The machine's methods. -/
namespace K1
open PySem L2
open MX (Rise Up)
section
variable {many : Int} {sA kA wA bA dA : Addr}
theorem lk_many : (mFlds many sA kA wA bA dA).lookup ("many" : Str) = some (.int many) := by
  unfold mFlds
  rw [lookup_putF, if_neg (by decide +kernel), lookup_putF, if_neg (by decide +kernel), lookup_putF, if_neg (by decide +kernel), lookup_putF, if_neg (by decide +kernel), lookup_putF, if_neg (by decide +kernel), lookup_putF, if_pos rfl]
theorem lk_steps : (mFlds many sA kA wA bA dA).lookup ("steps" : Str) = some (.ref sA) := by
  unfold mFlds
  rw [lookup_putF, if_neg (by decide +kernel), lookup_putF, if_neg (by decide +kernel), lookup_putF, if_neg (by decide +kernel), lookup_putF, if_neg (by decide +kernel), lookup_putF, if_pos rfl]
theorem lk_kinds : (mFlds many sA kA wA bA dA).lookup ("kinds" : Str) = some (.ref kA) := by
  unfold mFlds
  rw [lookup_putF, if_neg (by decide +kernel), lookup_putF, if_neg (by decide +kernel), lookup_putF, if_neg (by decide +kernel), lookup_putF, if_pos rfl]
theorem lk_words : (mFlds many sA kA wA bA dA).lookup ("words" : Str) = some (.ref wA) := by
  unfold mFlds
  rw [lookup_putF, if_neg (by decide +kernel), lookup_putF, if_neg (by decide +kernel), lookup_putF, if_pos rfl]
theorem lk_by : (mFlds many sA kA wA bA dA).lookup ("by_state" : Str) = some (.ref bA) := by
  unfold mFlds
  rw [lookup_putF, if_neg (by decide +kernel), lookup_putF, if_pos rfl]
theorem lk_known : (mFlds many sA kA wA bA dA).lookup ("_known" : Str) = some (.ref dA) := by
  unfold mFlds
  rw [lookup_putF, if_pos rfl]
theorem lk_no {m : Str} (h : ¬ m = "_known" ∧ ¬ m = "by_state" ∧ ¬ m = "words" ∧ ¬ m = "kinds" ∧ ¬ m = "steps" ∧ ¬ m = "many") : (mFlds many sA kA wA bA dA).lookup m = none := by
  obtain ⟨h1, h2, h3, h4, h5, h6⟩ := h
  unfold mFlds
  rw [lookup_putF, if_neg h1, lookup_putF, if_neg h2, lookup_putF, if_neg h3, lookup_putF, if_neg h4, lookup_putF, if_neg h5, lookup_putF, if_neg h6]; rfl
end
structure TxtC (K : PySem.W.Frag) (mg : Str → Option Value) (C : Addr) : Prop where
  cl : Cls K C
  n_many : NoAttr K C "many"
  n_steps : NoAttr K C "steps"
  n_kinds : NoAttr K C "kinds"
  n_words : NoAttr K C "words"
  n_by_state : NoAttr K C "by_state"
  n_known : NoAttr K C "_known"
  len : mg "len" = none
  list : mg "list" = none
def spMLen (C : Addr) : Sp := fun vs H Q _ => ∃ (p : Addr) (many : Int) (sts : List Stp), vs = [.ref p] ∧ MachAt C H p many sts ∧ Q (.int many) H
section
variable {P : Program} {w : World} {K : PySem.W.Frag} {mg : Str → Option Value} {base : Heap}
abbrev sMLen : Stmt := inClass (top 27) 2
theorem scMLen : FnScope ["self"] ["self"] (defScope sMLen) := ⟨rfl, rfl, rfl, by decide +kernel, rfl, by decide +kernel, by decide +kernel⟩
theorem ok_mLen {f C : Addr} {fd : FuncData} (F : Fun K "__len__" "Machine.__len__" sMLen f fd) (T : TxtC K mg C) : FnOk P w K mg base CX0 1 f fd ["self"] (spMLen C) := by
  refine F.ok scMLen (fun vs H Q E h => ?_) (fun cdv A outer s H vs Q E hr h => ?_)
  · obtain ⟨p, many, sts, rfl, _⟩ := h
    rfl
  · obtain ⟨p, many, sts, rfl, ⟨dx, sA, kA, wA, bA, dA, hp, B⟩, k⟩ := h
    obtain ⟨rows, h7, h8, h9⟩ := B.byS
    refine ⟨_, (pss_one (ps_ret (pe_callB call_len_seq (by rfl) T.len PySem.boot_len (pa_cons (pe_fld (pv 0) rfl) pa_nil)))), ?_⟩
    refine ⟨_, rfl, p, C, dx, _, _, rfl, hp, T.cl, T.n_by_state, lk_by, bA, _, rfl, .inl (SqL.of h7), ?_⟩
    rw [List.length_map, h8]
    exact k
/-! ### == -/
structure TxtE (K : PySem.W.Frag) (mg : Str → Option Value) (C : Addr) : Prop where
  cl : Cls K C
  n_many : NoAttr K C "many"
  n_steps : NoAttr K C "steps"
  isinstance : mg "isinstance" = none
  g_Machine : mg "Machine" = some (.ref C)
  own : C8.InsC K C
  ki : PySem.W.kitOne K (.ref C) (.ref C) = some true
def spMEq (C : Addr) : Sp := fun vs H Q _ => ∃ (p q : Addr) (many : Int) (sts : List Stp), vs = [.ref p, .ref q] ∧ MachAt C H p many sts ∧ MachAt C H q many sts ∧ (∀ s ∈ sts, OkS many s) ∧ Q (.bl true) H
abbrev sMEq : Stmt := inClass (top 27) 1
theorem scMEq : FnScope ["self", "other"] ["self", "other"] (defScope sMEq) := ⟨rfl, rfl, rfl, by decide +kernel, rfl, by decide +kernel, by decide +kernel⟩
theorem ok_mEq {f C : Addr} {fd : FuncData} (F : Fun K "__eq__" "Machine.__eq__" sMEq f fd) (T : TxtE K mg C) : FnOk P w K mg base CX0 1 f fd ["self", "other"] (spMEq C) := by
  refine F.ok scMEq (fun vs H Q E h => ?_) (fun cdv A outer s H vs Q E hr h => ?_)
  · obtain ⟨p, q, many, sts, rfl, _⟩ := h
    rfl
  · obtain ⟨p, q, many, sts, rfl, ⟨dx, sA, kA, wA, bA, dA, hp, B⟩, ⟨dx', sA', kA', wA', bA', dA', hp', B'⟩, oks, k⟩ := h
    have hu := hr.units
    obtain ⟨vs, hA, rA⟩ := B.stp
    obtain ⟨vs', hA', rA'⟩ := B'.stp
    refine ⟨_, (pss_one (ps_ret (pe_and (pe_callB call_isi (by rfl) T.isinstance (by decide +kernel) (pa_cons (pv 1) (pa_cons (pe_glob (v := .ref C) (by rfl) T.g_Machine rfl) pa_nil))) (pe_and (pe_cmpR op_eq (pe_fld (pv 0) rfl) (pe_fld (pv 1) rfl) (nomark _)) (pe_one (pe_cmpR (op_eqD hu) (pe_fld (pv 0) rfl) (pe_fld (pv 1) rfl) (nomark _))))))), ?_⟩
    have ws : ∀ s ∈ sts, wordE (.str s.k) = true ∧ wordE (.str s.s) = true := fun s h => ⟨(oks s h).2.2.2.2.1, (oks s h).2.2.2.2.2⟩
    refine ⟨_, rfl, .ref q, .ref C, _, _, true, rfl, .own C, .base (.ins hp' T.cl T.own.ha T.own.hn T.own.htk T.own.hm), T.ki, _, rfl, ?_⟩
    refine iteT ⟨_, rfl, p, C, dx, _, _, rfl, hp, T.cl, T.n_many, lk_many, _, rfl, q, C, dx', _, _, rfl, hp', T.cl, T.n_many, lk_many, rfl, _, rfl, ?_⟩
    rw [decide_eq_true rfl]
    refine iteT ⟨_, rfl, p, C, dx, _, _, rfl, hp, T.cl, T.n_steps, lk_steps, _, rfl, q, C, dx', _, _, rfl, hp', T.cl, T.n_steps, lk_steps, _, _, .tup (SqT.of hA) (dp_row rA), .tup (SqT.of hA') (dp_row rA'), shaped_tup ws, shaped_tup ws, ?_⟩
    rw [eqv_tup ws]
    exact k
/-! ### states -/
def stateB (many : Int) : V → Bool
  | .int i => decide (0 ≤ i) && decide (i < many)
  | _ => false
theorem stateB_num {many : Int} {v : V} (h : numB v = false) : stateB many v = false := by
  cases v with
  | int i =>
    have z : decide (0 ≤ i) = false := h
    show (decide (0 ≤ i) && decide (i < many)) = false
    rw [z]; rfl
  | _ => rfl
def Size (many : Int) : Prop := 0 ≤ many ∧ many ≤ 100000
def spState (K : PySem.W.Frag) (C : Addr) : Sp := fun vs H Q _ => ∃ (p : Addr) (many : Int) (sts : List Stp) (v : V) (ty : String), vs = [.ref p, v] ∧ MachAt C H p many sts ∧ Size many ∧ Pl K H v ty ∧ Q (.bl (stateB many v)) H
structure TxtT (K : PySem.W.Frag) (mg : Str → Option Value) (C fN fL : Addr) : Prop where
  g_is_number : mg "is_number" = some (.ref fN)
  k_is_number : PySem.W.keepIn K (.ref fN) = true
  len : mg "len" = none
  h_len_Machine : PySem.W.findIn K (.ref C) "__len__" = some (some (.ref fL))
  f_len_Machine : PySem.W.isFn K (.ref fL) = true
abbrev sState : Stmt := top 11
theorem scState : FnScope ["machine", "state"] ["machine", "state"] (defScope sState) := ⟨rfl, rfl, rfl, by decide +kernel, rfl, by decide +kernel, by decide +kernel⟩
theorem ok_state {f C fN fL : Addr} {fd fdN fdL : FuncData} (F : Fun K "is_state" "is_state" sState f fd) (T : TxtT K mg C fN fL)
    (G_is_number : FnOk P w K mg base CX0 1 fN fdN ["value"] (spNum K)) (b_is_number : Binds K fdN ["value"] []) (G_len_Machine : FnOk P w K mg base CX0 1 fL fdL ["self"] (spMLen C)) (b_len_Machine : Binds K fdL ["self"] []) :
    FnOk P w K mg base CX0 3 f fd ["machine", "state"] (spState K C) := by
  refine F.ok scState (fun vs H Q E h => ?_) (fun cdv A outer s H vs Q E hr h => ?_)
  · obtain ⟨p, many, sts, v, ty, rfl, _⟩ := h
    rfl
  · obtain ⟨p, many, sts, v, ty, rfl, M, sz, pl, k⟩ := h
    have hr_is_number : Room 1 _ := hr.mono (by decide)
    have hr_len_Machine : Room 2 _ := hr
    refine ⟨_, (pss_one (ps_ret (pe_and (pe_call G_is_number hr_is_number (by rfl) T.g_is_number T.k_is_number b_is_number .nil pass0 (pa_cons (pv 1) pa_nil)) (pe_one (pe_cmpR op_lt (pv 1) (pe_callB (call_lenOwn T.h_len_Machine T.f_len_Machine G_len_Machine b_len_Machine hr_len_Machine pass0) (by rfl) T.len PySem.boot_len (pa_cons (pv 0) pa_nil)) (nomark _)))))), ?_⟩
    refine ⟨_, rfl, v, ty, rfl, pl, _, rfl, ?_⟩
    cases c : numB v with
    | false =>
      rw [stateB_num c] at k
      exact iteF k
    | true =>
      obtain ⟨i, rfl⟩ : ∃ i, v = .int i := by
        cases v with
        | int i => exact ⟨i, rfl⟩
        | _ => exact absurd c Bool.false_ne_true
      have M0 := M
      obtain ⟨dx, sA, kA, wA, bA, dA, hp, B⟩ := M0
      have e : stateB many (.int i) = decide (i < many) := by
        have z : decide (0 ≤ i) = true := c
        show (decide (0 ≤ i) && decide (i < many)) = _
        rw [z, Bool.true_and]
      rw [e] at k
      exact iteT ⟨_, rfl, _, rfl, p, dx, _, rfl, hp, p, many, sts, rfl, M, many, rfl, sz.1, by have := sz.2; omega, _, _, rfl, rfl, k⟩
def spCheck (K : PySem.W.Frag) (C CS : Addr) : Sp := fun vs H Q E => ∃ (p : Addr) (many : Int) (sts : List Stp) (v : V) (ty : String), vs = [.ref p, v] ∧ MachAt C H p many sts ∧ Size many ∧ Pl K H v ty ∧
  (stateB many v = false → E (.ref CS) none H) ∧ (stateB many v = true → Q .non H)
structure TxtK (K : PySem.W.Frag) (mg : Str → Option Value) (CS fS : Addr) : Prop where
  g_is_state : mg "is_state" = some (.ref fS)
  k_is_state : PySem.W.keepIn K (.ref fS) = true
  x_BadStates : PySem.W.excIn K CS [.type "ValueError", .type "Exception", .type "BaseException", .type "object"] "ValueError.__new__" = true
  c_BadStates : mg "BadStates" = some (.ref CS)
  k_BadStates : PySem.W.keepIn K (.ref CS) = true
  b_BadStates : PySem.W.subIn K (.ref CS) (.type "BaseException") = some true
  t_BadStates : PySem.W.typeIn K (.ref CS) = some (.type "type")
abbrev sCheck : Stmt := top 13
theorem scCheck : FnScope ["machine", "state"] ["machine", "state"] (defScope sCheck) := ⟨rfl, rfl, rfl, by decide +kernel, rfl, by decide +kernel, by decide +kernel⟩
theorem ok_check {f C CS fS : Addr} {fd fdS : FuncData} (F : Fun K "check_state" "check_state" sCheck f fd) (T : TxtK K mg CS fS)
    (G_is_state : FnOk P w K mg base CX0 3 fS fdS ["machine", "state"] (spState K C)) (b_is_state : Binds K fdS ["machine", "state"] []) : FnOk P w K mg base (L2.CX P w) 4 f fd ["machine", "state"] (spCheck K C CS) := by
  refine F.okX scCheck (fun vs H Q E h => ?_) (fun cdv A outer s H vs Q E hr h => ?_)
  · obtain ⟨p, many, sts, v, ty, rfl, _⟩ := h
    rfl
  · obtain ⟨p, many, sts, v, ty, rfl, M, sz, pl, kb, kg⟩ := h
    have hr_is_state : Room 3 _ := hr
    refine ⟨_, (pss_one (ps_if (pt_not (pt_val (pe_call G_is_state hr_is_state (by rfl) T.g_is_state T.k_is_state b_is_state .nil pass0 (pa_cons (pv 0) (pa_cons (pv 1) pa_nil)))))
        (pss_one (ps_raise rfl (takes_of rfl rfl rfl rfl) (pmk_own PySem.F.excBase_ValueError T.x_BadStates T.c_BadStates T.k_BadStates (raises_own T.b_BadStates T.t_BadStates) (by rfl))))
        pss_nil)), ?_⟩
    refine ⟨_, rfl, _, rfl, p, many, sts, v, ty, rfl, M, sz, pl, _, rfl, ?_⟩
    cases c : stateB many v with
    | false => exact iteT (kb c)
    | true => exact iteF (kg c)
def spBehind (K : PySem.W.Frag) (C CS : Addr) : Sp := fun vs H Q E => ∃ (p : Addr) (many : Int) (sts : List Stp) (v : V) (ty : String), vs = [.ref p, v] ∧ MachAt C H p many sts ∧ Size many ∧ Pl K H v ty ∧
  (stateB many v = false → E (.ref CS) none H) ∧ (stateB many v = true → ∀ (i : Int) (H' : Hp) (l : Addr) (ws : List V), v = .int i → Same H H' → H l = none → H' l = some (.lst ws) → Row H' ws (sts.filter fun s => decide (s.a = i)) → Q (.ref l) H')
structure TxtB2 (K : PySem.W.Frag) (mg : Str → Option Value) (C fC : Addr) : Prop where
  g_check_state : mg "check_state" = some (.ref fC)
  k_check_state : PySem.W.keepIn K (.ref fC) = true
  cl : Cls K C
  n_by_state : NoAttr K C "by_state"
  list : mg "list" = none
abbrev sBehind : Stmt := inClass (top 27) 4
theorem scBehind : FnScope ["self", "state"] ["self", "state"] (defScope sBehind) := ⟨rfl, rfl, rfl, by decide +kernel, rfl, by decide +kernel, by decide +kernel⟩
theorem ok_behind {f C CS fC : Addr} {fd fdC : FuncData} (F : Fun K "behind" "Machine.behind" sBehind f fd) (T : TxtB2 K mg C fC)
    (G_check_state : FnOk P w K mg base (L2.CX P w) 4 fC fdC ["machine", "state"] (spCheck K C CS)) (b_check_state : Binds K fdC ["machine", "state"] []) : FnOk P w K mg base (L2.CX P w) 5 f fd ["self", "state"] (spBehind K C CS) := by
  refine F.okX scBehind (fun vs H Q E h => ?_) (fun cdv A outer s H vs Q E hr h => ?_)
  · obtain ⟨p, many, sts, v, ty, rfl, _⟩ := h
    rfl
  · obtain ⟨p, many, sts, v, ty, rfl, M, sz, pl, kb, kg⟩ := h
    have hr_check_state : Room 4 _ := hr
    refine ⟨_, (pss_cons (ps_expr (pe_callS G_check_state hr_check_state (by rfl) T.g_check_state T.k_check_state b_check_state (E := fun _ => E) (fun σ => passAt (takes_of rfl rfl rfl rfl) σ) (pa_cons (pv 0) (pa_cons (pv 1) pa_nil))))
      (pss_one (ps_ret (pe_callTy call_list_of (by rfl) T.list (by decide +kernel) (pa_cons (pe_ix ix_list (pe_fld (pv 0) rfl) (pv 1) (fun _ _ => rfl)) pa_nil))))), ?_⟩
    refine ⟨_, rfl, _, rfl, p, many, sts, v, ty, rfl, M, sz, pl, kb, fun c => ?_⟩
    obtain ⟨i, rfl⟩ : ∃ i, v = .int i := by
      cases v with
      | int i => exact ⟨i, rfl⟩
      | _ => exact absurd c Bool.false_ne_true
    obtain ⟨dx, sA, kA, wA, bA, dA, hp, B⟩ := M
    obtain ⟨rows, h7, h8, h9⟩ := B.byS
    have c2 : (decide (0 ≤ i) && decide (i < many)) = true := c
    obtain ⟨i0, i1⟩ := Bool.and_eq_true_iff.mp c2
    have i0 := of_decide_eq_true i0
    have i1 := of_decide_eq_true i1
    obtain ⟨r, hr1, hr2⟩ := ref_at (rows := rows) i0 (by omega)
    obtain ⟨ws, hw, rw1⟩ := h9 _ _ hr1
    have ei : ((i.toNat : Nat) : Int) = i := by omega
    rw [ei] at rw1
    refine ⟨_, rfl, p, C, dx, _, _, rfl, hp, T.cl, T.n_by_state, lk_by, _, rfl, bA, _, _, _, rfl, rfl, SqL.of h7, hr2, r, _, rfl, .inl (SqL.of hw), fun l hl => ?_⟩
    exact kg c i _ l ws rfl (same_new hl) hl upd_same (rw1.same (same_new hl))
end
end K1
end
section
/-! d.setdefault(k, x) as a call. -/
namespace L2
open PySem PySem.Spec PyProof.Rows PySem.W
variable {X : Cx}
theorem mt_setd : MtR X "dict.setdefault" rSetd := by
  intro pins s σ H x xs v us Q I rx rv h
  obtain ⟨a, kvs, k, x0, rfl, rfl, ea, hl, w1, w2⟩ := h
  obtain rfl : v = Value.ref a := rx
  match us, rv with
  | [u1, u2], .cons ry (.cons rd .nil) =>
    obtain ⟨z, hd, vs0, rel, dd⟩ := dk_of I.hok ea
    have few : vs0.length ≤ sizeLine := rel.length ▸ z
    refine call_meetsIn PySem.F.slot_dict_setdefault dd.typeIs PySem.F.entry_dict_setdefault (PySem.F.args_dict_setdefault_3 _ _ _) (kt_meets_setdefault (mixKind X.prog X.w) _ (kV_is ry) hd _) ⟨vs0, dd, few, fun u hu => ?_, fun hn h' dd' sb => ?_⟩
    · have rr := rel.val k
      cases hv : valV kvs k with
      | none => rw [hu, hv] at rr; exact rr.elim
      | some y =>
        rw [hu, hv] at rr
        exact (⟨y, H, I.tok _, rr, w1 y hv⟩ : EP X pins σ Q u _)
    · have rr := rel.val k
      cases hv : valV kvs k with
      | some y => rw [hn, hv] at rr; exact rr.elim
      | none =>
        have room : (putK kvs k x0).length ≤ sizeLine := by have := length_putK kvs k x0; omega
        have ⟨q, _, _, hq, _⟩ := dd'
        have J := d_write (t' := s.toks + 1) I (by rw [ea]; exact True.intro) sb ⟨q, hq⟩ (dk_new room hd (rel.put k rd) dd')
        exact (⟨x0, _, J, rd, w2 hv⟩ : EP X pins σ Q _ _)
end L2
end
section
/-! Outlooks. -/
namespace K1
open PySem L2
open MX (Rise Up)
section
variable {P : Program} {w : World} {K : PySem.W.Frag} {mg : Str → Option Value} {base : Heap}
/-- [.. for _ in range(many)], each a new object like o0 -/
theorem news_value {o0 : HO} {te : TE} (hte : ∀ σ H Q, (∀ p, H p = none → Q (.ref p) (upd H p o0)) → te σ H Q) {σ : L2.St} {i : Nat} {H : Hp} {R : VK} {many : Int} (h1 : σ[1]? = some (some (.int many))) (hw : ∀ v, wipe ((wipe σ [i]).set i (some v)) [i] = wipe σ [i]) (m1 : 0 ≤ many) (m2 : many ≤ 3000)
    (k : ∀ (H' : Hp) (D : Addr) (rows : List Addr), Same H H' → H D = none → H' D = some (.lst (rows.map V.ref)) → (rows.length : Int) = many → (∀ r ∈ rows, H' r = some o0 ∧ H r = none ∧ r ≠ D) → rows.Nodup → R (.ref D) H') :
    tLc (iRng1 (tCons (tVar 1) tNil)) (gName i) tYes te [i] σ H R := by
  refine ⟨_, h1, many, rfl, by omega, by omega, fun D hD => lc_range (lo := 0) (n := many.toNat) (fun i H' => ∃ rows : List Addr, H' D = some (.lst (rows.map V.ref)) ∧ rows.length = i ∧ (∀ r ∈ rows, H' r = some o0 ∧ H r = none ∧ r ≠ D) ∧ Same H H' ∧ rows.Nodup)
    ⟨[], upd_same, rfl, fun r h => absurd h (by simp), same_new hD, List.nodup_nil⟩ ?_ ?_⟩
  · rintro j H1 hj ⟨rows, h1, h2, h4, e1, h5⟩
    refine ⟨hw _, hte _ _ _ fun l hl => ⟨rows.map V.ref, ?_, ?_, rows ++ [l], ?_, by rw [List.length_append, h2]; rfl, fun r hr => ?_, fun b o z => ?_, List.nodup_append.mpr ⟨h5, by simp, fun a ha b hb e => by rw [← List.mem_singleton.mp hb, ← e, (h4 a ha).1] at hl; cases hl⟩⟩⟩
    · rw [upd_ne (ne_of_none h1 hl)]; exact h1
    · rw [List.length_map, h2, sizeLine_eq]; omega
    · rw [upd_same, List.map_append]; rfl
    · rcases List.mem_append.mp hr with hr | hr
      · obtain ⟨a, b, c⟩ := h4 r hr
        refine ⟨?_, b, c⟩
        rw [upd_ne c, upd_ne (ne_of_none a hl)]; exact a
      · rw [List.mem_singleton.mp hr]
        have nlD : l ≠ D := fun z => by rw [z, h1] at hl; cases hl
        exact ⟨by rw [upd_ne nlD, upd_same], e1.free hl, nlD⟩
    · rw [upd_ne (ne_of_none z hD), upd_ne (ne_of_none (e1 _ _ z) hl)]
      exact e1 _ _ z
  · rintro H1 ⟨rows, h1, h2, h4, e1, h5⟩
    exact k H1 D rows e1 hD h1 (by rw [h2]; omega) h4 h5
/-- three of a step: from, word, to -/
def triV (s : Stp) : List V := [.int s.a, .str s.s, .int s.g]
def Tri (H : Hp) : List V → List Stp → Prop := PySem.Paired fun v s => ∃ q, v = .ref q ∧ H q = some (.tup (triV s))
theorem Tri.keep {H H' : Hp} {vs : List V} {xs : List Stp} (e : ∀ p ts, H p = some (.tup ts) → H' p = some (.tup ts)) (h : Tri H vs xs) : Tri H' vs xs := Paired.mapP h fun _ _ ⟨p, e1, e2⟩ => ⟨p, e1, e _ _ e2⟩
/-- a list of states at r -/
def LI (many : Int) (n : Nat) (H : Hp) (r : Addr) : Prop := ∃ gs : List Int, H r = some (.lst (gs.map V.int)) ∧ (∀ g ∈ gs, 0 ≤ g ∧ g < many) ∧ gs.length ≤ n
def Has (H : Hp) (r : Addr) (g : Int) : Prop := ∃ gs : List Int, H r = some (.lst (gs.map V.int)) ∧ g ∈ gs
theorem ints_inj : ∀ {gs hs : List Int}, gs.map V.int = hs.map V.int → gs = hs
  | [], [], _ => rfl
  | [], _ :: _, e => by cases e
  | _ :: _, [], e => by cases e
  | g :: gs, h :: hs, e => by
    rw [List.map_cons, List.map_cons] at e
    obtain ⟨e1, e2⟩ := List.cons.inj e
    rw [V.int.inj e1, ints_inj e2]
theorem LI.mono {many : Int} {n m : Nat} {H : Hp} {r : Addr} (h : LI many n H r) (l : n ≤ m) : LI many m H r := let ⟨gs, a, b, c⟩ := h; ⟨gs, a, b, Nat.le_trans c l⟩
def DI (many : Int) (p q : Nat) (H0 H : Hp) (d : Addr) : Prop := ∃ kvs : List (Key × V), H d = some (.dK kvs) ∧ kvs.length ≤ q ∧ ∀ (k : Key) v, valV kvs k = some v → ∃ r, v = .ref r ∧ LI many p H r ∧ H0 r = none
def Wd (H : Hp) (d : Addr) (s : Str) (g : Int) : Prop := ∃ (kvs : List (Key × V)) (r : Addr), H d = some (.dK kvs) ∧ valV kvs (Sum.inr s : Key) = some (.ref r) ∧ Has H r g
/-- while the steps are laid out -/
structure OI (many : Int) (p q : Nat) (H0 H : Hp) (rows ds : List Addr) (ts : List Stp) : Prop where
  off : ∀ b o, H0 b = some o → b ∉ rows → b ∉ ds → H b = some o
  rw_ : ∀ r ∈ rows, LI many p H r
  dw : ∀ d ∈ ds, DI many p q H0 H d
  done : ∀ t ∈ ts, (t.s = Str.ofString "" → ∃ r, rows[t.a.toNat]? = some r ∧ Has H r t.g) ∧ (t.s ≠ Str.ofString "" → ∃ d, ds[t.a.toNat]? = some d ∧ Wd H d t.s t.g)
section
variable {many : Int} {p q : Nat} {H0 H : Hp} {rows ds : List Addr} {ts : List Stp}
theorem OI.mono {p' q' : Nat} (O : OI many p q H0 H rows ds ts) (lp : p ≤ p') (lq : q ≤ q') : OI many p' q' H0 H rows ds ts :=
  ⟨O.off, fun r hr => (O.rw_ r hr).mono lp, fun d hd => let ⟨kvs, a, b, c⟩ := O.dw d hd; ⟨kvs, a, Nat.le_trans b lq, fun k v h => let ⟨r, e, l, n⟩ := c k v h; ⟨r, e, l.mono lp, n⟩⟩, O.done⟩
theorem has_upd {r r' : Addr} {gs : List Int} {g g' : Int} (hr : H r = some (.lst (gs.map V.int))) (h : Has H r' g') : Has (upd H r (.lst (gs.map V.int ++ [V.int g]))) r' g' := by
  obtain ⟨hs, h1, h2⟩ := h
  rcases Decidable.em (r' = r) with e | e
  · subst e
    rw [hr] at h1
    have z2 : gs = hs := ints_inj (HO.lst.inj (Option.some.inj h1))
    subst z2
    exact ⟨gs ++ [g], by rw [upd_same, List.map_append]; rfl, List.mem_append_left _ h2⟩
  · exact ⟨hs, by rw [upd_ne e]; exact h1, h2⟩
theorem li_upd {r r' : Addr} {gs : List Int} {g : Int} (hr : H r = some (.lst (gs.map V.int))) (inr : 0 ≤ g ∧ g < many) (h : LI many p H r') : LI many (p + 1) (upd H r (.lst (gs.map V.int ++ [V.int g]))) r' := by
  obtain ⟨hs, h1, h2, h3⟩ := h
  rcases Decidable.em (r' = r) with e | e
  · subst e
    rw [hr] at h1
    have z2 : gs = hs := ints_inj (HO.lst.inj (Option.some.inj h1))
    subst z2
    refine ⟨gs ++ [g], by rw [upd_same, List.map_append]; rfl, fun x hx => ?_, by rw [List.length_append]; exact Nat.succ_le_succ h3⟩
    rcases List.mem_append.mp hx with hx | hx
    · exact h2 x hx
    · rw [List.mem_singleton.mp hx]; exact inr
  · exact ⟨hs, by rw [upd_ne e]; exact h1, h2, Nat.le_succ_of_le h3⟩
theorem OI.app {r : Addr} {gs : List Int} {g : Int} (O : OI many p q H0 H rows ds ts) (hr : H r = some (.lst (gs.map V.int))) (inr : 0 ≤ g ∧ g < many) (own : r ∈ rows ∨ H0 r = none) : OI many (p + 1) q H0 (upd H r (.lst (gs.map V.int ++ [V.int g]))) rows ds ts where
  off := fun b o z n1 n2 => by
    have ne : b ≠ r := fun e => by
      rcases own with h | h
      · exact n1 (by rw [e]; exact h)
      · rw [e, h] at z; cases z
    rw [upd_ne ne]; exact O.off b o z n1 n2
  rw_ := fun r' h => li_upd hr inr (O.rw_ r' h)
  dw := fun d hd => by
    obtain ⟨kvs, a, b, c⟩ := O.dw d hd
    exact ⟨kvs, by rw [upd_ne (ne_of a hr (by intro y; cases y))]; exact a, b, fun k v h => let ⟨r', e, l, n⟩ := c k v h; ⟨r', e, li_upd hr inr l, n⟩⟩
  done := fun t ht => by
    refine ⟨fun e => ?_, fun e => ?_⟩
    · obtain ⟨r', a, b⟩ := (O.done t ht).1 e
      exact ⟨r', a, has_upd hr b⟩
    · obtain ⟨d, a, kvs, r', b, c, h⟩ := (O.done t ht).2 e
      exact ⟨d, a, kvs, r', by rw [upd_ne (ne_of b hr (by intro y; cases y))]; exact b, c, has_upd hr h⟩
theorem OI.lay {l : Addr} (O : OI many p q H0 H rows ds ts) (nl : H l = none) : OI many p q H0 (upd H l (.lst [])) rows ds ts := by
  have e : Same H (upd H l (.lst [])) := same_new nl
  refine ⟨fun b o z n1 n2 => e _ _ (O.off b o z n1 n2), fun r h => let ⟨gs, a, b, c⟩ := O.rw_ r h; ⟨gs, e _ _ a, b, c⟩, fun d h => let ⟨kvs, a, b, c⟩ := O.dw d h; ⟨kvs, e _ _ a, b, fun k v h => let ⟨r', e', ⟨gs, l1, l2, l3⟩, n⟩ := c k v h; ⟨r', e', ⟨gs, e _ _ l1, l2, l3⟩, n⟩⟩, fun t ht => ⟨fun c => ?_, fun c => ?_⟩⟩
  · obtain ⟨r', a, gs, b, c⟩ := (O.done t ht).1 c
    exact ⟨r', a, gs, e _ _ b, c⟩
  · obtain ⟨d, a, kvs, r', b, c, gs, h1, h2⟩ := (O.done t ht).2 c
    exact ⟨d, a, kvs, r', e _ _ b, c, gs, e _ _ h1, h2⟩
theorem OI.put {d l : Addr} {kvs : List (Key × V)} {k : Key} (O : OI many p q H0 H rows ds ts) (hd : H d = some (.dK kvs)) (md : d ∈ ds) (hl : H l = some (.lst [])) (nl : H0 l = none) (no : valV kvs k = none) : OI many p (q + 1) H0 (upd H d (.dK (putK kvs k (.ref l)))) rows ds ts := by
  have tk : ∀ b xs, H b = some (.lst xs) → upd H d (.dK (putK kvs k (.ref l))) b = some (.lst xs) := fun b xs z => by
    rw [upd_ne (ne_of z hd (by intro y; cases y))]; exact z
  have li : ∀ {r}, LI many p H r → LI many p (upd H d (.dK (putK kvs k (.ref l)))) r := fun {r} ⟨gs, a, b, c⟩ => ⟨gs, tk _ _ a, b, c⟩
  refine ⟨fun b o z n1 n2 => by rw [upd_ne (fun e => n2 (by rw [e]; exact md))]; exact O.off b o z n1 n2, fun r h => li (O.rw_ r h), fun d' h' => ?_, fun t ht => ⟨fun c => ?_, fun c => ?_⟩⟩
  · rcases Decidable.em (d' = d) with e | e
    · subst e
      obtain ⟨kvs', a, b, c⟩ := O.dw d' h'
      rw [hd] at a
      obtain rfl := HO.dK.inj (Option.some.inj a)
      refine ⟨_, upd_same, Nat.le_trans (length_putK ..) (Nat.succ_le_succ b), fun k' v hv => ?_⟩
      rw [valV_put] at hv
      rcases Classical.em (k' = k) with e | e
      · rw [if_pos e] at hv
        cases hv
        exact ⟨l, rfl, ⟨[], tk _ _ hl, fun g h => absurd h (by simp), Nat.zero_le _⟩, nl⟩
      · rw [if_neg e] at hv
        obtain ⟨r, e1, e2, e3⟩ := c k' v hv
        exact ⟨r, e1, li e2, e3⟩
    · obtain ⟨kvs', a, b, c⟩ := O.dw d' h'
      exact ⟨kvs', by rw [upd_ne e]; exact a, Nat.le_succ_of_le b, fun k' v hv => let ⟨r, e1, e2, e3⟩ := c k' v hv; ⟨r, e1, li e2, e3⟩⟩
  · obtain ⟨r', a, gs, b, c⟩ := (O.done t ht).1 c
    exact ⟨r', a, gs, tk _ _ b, c⟩
  · obtain ⟨d', a, kvs', r', b, c, gs, h1, h2⟩ := (O.done t ht).2 c
    rcases Decidable.em (d' = d) with e | e
    · subst e
      rw [hd] at b
      obtain rfl := HO.dK.inj (Option.some.inj b)
      refine ⟨d', a, _, r', upd_same, ?_, gs, tk _ _ h1, h2⟩
      rw [valV_put, if_neg (fun z => by rw [z, no] at c; cases c)]
      exact c
    · exact ⟨d', a, kvs', r', by rw [upd_ne e]; exact b, c, gs, tk _ _ h1, h2⟩
end
/-- a state's list for a word -/
def Ent (H : Hp) (ds : List Addr) (i : Nat) (x : Str) (r : Addr) : Prop := ∃ (d : Addr) (kvs : List (Key × V)), ds[i]? = some d ∧ H d = some (.dK kvs) ∧ valV kvs (Sum.inr x : Key) = some (.ref r)
theorem Ent.iff_upd {H : Hp} {ds : List Addr} {i : Nat} {x : Str} {r l : Addr} {xs : List V} (no : ∀ kvs, H l ≠ some (.dK kvs)) : Ent (upd H l (.lst xs)) ds i x r ↔ Ent H ds i x r := by
  constructor
  · rintro ⟨d, kvs, a, b, c⟩
    have ne : d ≠ l := fun e => by rw [e, upd_same] at b; cases b
    rw [upd_ne ne] at b
    exact ⟨d, kvs, a, b, c⟩
  · rintro ⟨d, kvs, a, b, c⟩
    have ne : d ≠ l := fun e => no kvs (by rw [← e]; exact b)
    exact ⟨d, kvs, a, by rw [upd_ne ne]; exact b, c⟩
/-- nothing else is there, and no two lists are one -/
structure OY (H : Hp) (rows ds : List Addr) (ts : List Stp) : Prop where
  rn : rows.Nodup
  dn : ds.Nodup
  rl : ∀ r ∈ rows, ∃ xs, H r = some (.lst xs)
  dl : ∀ d ∈ ds, ∃ kvs, H d = some (.dK kvs)
  el : ∀ i x r, Ent H ds i x r → r ∉ rows ∧ ∃ xs, H r = some (.lst xs)
  ww : ∀ i x i' x' r, Ent H ds i x r → Ent H ds i' x' r → i = i' ∧ x = x'
  un : ∀ (i : Nat) r (gs : List Int) g, rows[i]? = some r → H r = some (.lst (gs.map V.int)) → g ∈ gs → ∃ t ∈ ts, t.a.toNat = i ∧ t.s = Str.ofString "" ∧ t.g = g
  wd : ∀ (i : Nat) x r (gs : List Int) g, Ent H ds i x r → H r = some (.lst (gs.map V.int)) → g ∈ gs → ∃ t ∈ ts, t.a.toNat = i ∧ t.s = x ∧ t.g = g
theorem nodup_at {xs : List Addr} (nd : xs.Nodup) {i j : Nat} {a : Addr} (hi : xs[i]? = some a) (hj : xs[j]? = some a) : i = j := by
  obtain ⟨li, ei⟩ := List.getElem?_eq_some_iff.mp hi
  obtain ⟨lj, ej⟩ := List.getElem?_eq_some_iff.mp hj
  rcases Nat.lt_trichotomy i j with c | c | c
  · exact absurd (ei.trans ej.symm) (List.pairwise_iff_getElem.mp nd i j li lj c)
  · exact c
  · exact absurd (ej.trans ei.symm) (List.pairwise_iff_getElem.mp nd j i lj li c)
section
variable {H : Hp} {rows ds : List Addr} {ts : List Stp}
theorem OY.same {H' : Hp} (O : OY H rows ds ts) (e : Same H H') : OY H' rows ds ts := by
  have back : ∀ {i x r}, Ent H' ds i x r → Ent H ds i x r := fun {i x r} ⟨d, kvs, a, b, c⟩ => by
    obtain ⟨kvs', hd⟩ := O.dl d (List.mem_of_getElem? a)
    have z := e _ _ hd
    rw [b] at z
    cases z
    exact ⟨d, kvs, a, hd, c⟩
  have lst : ∀ {r : Addr} {ys : List V}, (∃ xs, H r = some (.lst xs)) → H' r = some (.lst ys) → H r = some (.lst ys) := fun {r ys} ⟨xs, h⟩ h' => by
    have z := e _ _ h
    rw [h'] at z
    cases z
    exact h
  refine ⟨O.rn, O.dn, fun r hr => let ⟨xs, h⟩ := O.rl r hr; ⟨xs, e _ _ h⟩, fun d hd => let ⟨kvs, h⟩ := O.dl d hd; ⟨kvs, e _ _ h⟩, fun i x r h => let ⟨a, xs, b⟩ := O.el i x r (back h); ⟨a, xs, e _ _ b⟩, fun i x i' x' r h h' => O.ww i x i' x' r (back h) (back h'), fun i r gs g a b c => ?_, fun i x r gs g a b c => ?_⟩
  · exact O.un i r gs g a (lst (O.rl r (List.mem_of_getElem? a)) b) c
  · exact O.wd i x r gs g (back a) (lst (O.el i x r (back a)).2 b) c
theorem OY.lay {l : Addr} (O : OY H rows ds ts) (nl : H l = none) : OY (upd H l (.lst [])) rows ds ts := O.same (same_new nl)
theorem OY.app {r : Addr} {gs : List Int} {t : Stp} (O : OY H rows ds ts) (hr : H r = some (.lst (gs.map V.int))) (side : (rows[t.a.toNat]? = some r ∧ t.s = Str.ofString "") ∨ Ent H ds t.a.toNat t.s r) :
    OY (upd H r (.lst (gs.map V.int ++ [V.int t.g]))) rows ds (ts ++ [t]) := by
  have no : ∀ kvs, H r ≠ some (.dK kvs) := fun kvs z => by rw [hr] at z; cases z
  have iff : ∀ {i x r'}, Ent (upd H r (.lst (gs.map V.int ++ [V.int t.g]))) ds i x r' ↔ Ent H ds i x r' := fun {i x r'} => Ent.iff_upd no
  have isl : ∀ {r'}, (∃ xs, H r' = some (.lst xs)) → ∃ xs, upd H r (.lst (gs.map V.int ++ [V.int t.g])) r' = some (.lst xs) := fun {r'} ⟨xs, h⟩ => by
    rcases Decidable.em (r' = r) with e | e
    · exact ⟨_, by rw [e, upd_same]⟩
    · exact ⟨xs, by rw [upd_ne e]; exact h⟩
  have more : ∀ {p : Stp → Prop}, (∃ y ∈ ts, p y) → ∃ y ∈ ts ++ [t], p y := fun {p} ⟨y, m, h⟩ => ⟨y, List.mem_append_left _ m, h⟩
  have split : ∀ {hs : List Int} {g : Int}, upd H r (.lst (gs.map V.int ++ [V.int t.g])) r = some (.lst (hs.map V.int)) → g ∈ hs → g ∈ gs ∨ g = t.g := fun {hs g} e m => by
    rw [upd_same] at e
    have z : gs ++ [t.g] = hs := ints_inj (by rw [List.map_append]; exact HO.lst.inj (Option.some.inj e))
    rw [← z] at m
    exact (List.mem_append.mp m).imp id fun m => List.mem_singleton.mp m
  refine ⟨O.rn, O.dn, fun r' h => isl (O.rl r' h), fun d hd => ?_, fun i x r' h => let z := O.el i x r' (iff.mp h); ⟨z.1, isl z.2⟩, fun i x i' x' r' h h' => O.ww i x i' x' r' (iff.mp h) (iff.mp h'), fun i r' hs g a b c => ?_, fun i x r' hs g a b c => ?_⟩
  · obtain ⟨kvs, h⟩ := O.dl d hd
    exact ⟨kvs, by rw [upd_ne (fun e => no kvs (by rw [← e]; exact h))]; exact h⟩
  · rcases Decidable.em (r' = r) with e | e
    · subst e
      rcases split b c with c | c
      · exact more (O.un i r' gs g a hr c)
      · rcases side with ⟨s1, s2⟩ | s
        · exact ⟨t, List.mem_append_right _ (List.mem_singleton.mpr rfl), nodup_at O.rn s1 a, s2, c.symm⟩
        · exact absurd (List.mem_of_getElem? a) (O.el _ _ _ s).1
    · rw [upd_ne e] at b
      exact more (O.un i r' hs g a b c)
  · replace a := iff.mp a
    rcases Decidable.em (r' = r) with e | e
    · subst e
      rcases split b c with c | c
      · exact more (O.wd i x r' gs g a hr c)
      · rcases side with ⟨s1, s2⟩ | s
        · exact absurd (List.mem_of_getElem? s1) (O.el _ _ _ a).1
        · obtain ⟨e1, e2⟩ := O.ww _ _ _ _ _ s a
          exact ⟨t, List.mem_append_right _ (List.mem_singleton.mpr rfl), e1, e2, c.symm⟩
    · rw [upd_ne e] at b
      exact more (O.wd i x r' hs g a b c)
theorem OY.fresh {d l : Addr} {kvs : List (Key × V)} {i : Nat} {x : Str} (O : OY H rows ds ts) (nl : H l = none) (hi : ds[i]? = some d) (hd : H d = some (.dK kvs)) (no : valV kvs (Sum.inr x : Key) = none) :
    OY (upd (upd H l (.lst [])) d (.dK (putK kvs (Sum.inr x) (.ref l)))) rows ds ts ∧ Ent (upd (upd H l (.lst [])) d (.dK (putK kvs (Sum.inr x) (.ref l)))) ds i x l := by
  have O1 := O.lay nl
  have e1 : Same H (upd H l (.lst [])) := same_new nl
  have hd1 := e1 _ _ hd
  have old : ∀ {i' x' r'}, Ent (upd (upd H l (.lst [])) d (.dK (putK kvs (Sum.inr x) (.ref l)))) ds i' x' r' → Ent H ds i' x' r' ∨ (i' = i ∧ x' = x ∧ r' = l) := fun {i' x' r'} ⟨d', kvs', a, b, c⟩ => by
    rcases Decidable.em (d' = d) with e | e
    · subst e
      rw [upd_same] at b
      cases b
      rw [valV_put] at c
      rcases Classical.em ((Sum.inr x' : Key) = Sum.inr x) with f | f
      · rw [if_pos f] at c
        cases c
        exact .inr ⟨nodup_at O.dn a hi, Sum.inr.inj f, rfl⟩
      · rw [if_neg f] at c
        exact .inl ⟨d', kvs, a, hd, c⟩
    · rw [upd_ne e] at b
      exact .inl ((Ent.iff_upd (fun kv z => by rw [nl] at z; cases z)).mp ⟨d', kvs', a, b, c⟩)
  have tk : ∀ {b xs}, upd H l (.lst []) b = some (.lst xs) → upd (upd H l (.lst [])) d (.dK (putK kvs (Sum.inr x) (.ref l))) b = some (.lst xs) := fun {b xs} z => by
    rw [upd_ne (ne_of z hd1 (by intro y; cases y))]; exact z
  have tb : ∀ {b xs}, upd (upd H l (.lst [])) d (.dK (putK kvs (Sum.inr x) (.ref l))) b = some (.lst xs) → upd H l (.lst []) b = some (.lst xs) := fun {b xs} z => by
    rcases Decidable.em (b = d) with e | e
    · rw [e, upd_same] at z; cases z
    · rw [upd_ne e] at z; exact z
  have nlr : l ∉ rows := fun h => by obtain ⟨xs, z⟩ := O.rl l h; rw [nl] at z; cases z
  have nle : ∀ {i' x'}, ¬ Ent H ds i' x' l := fun {i' x'} h => by obtain ⟨xs, z⟩ := (O.el _ _ _ h).2; rw [nl] at z; cases z
  refine ⟨⟨O.rn, O.dn, fun r h => let ⟨xs, z⟩ := O1.rl r h; ⟨xs, tk z⟩, fun d' h => ?_, fun i' x' r' h => ?_, fun i1 x1 i2 x2 r' h1 h2 => ?_, fun i' r' gs g a b c => O1.un i' r' gs g a (tb b) c, fun i' x' r' gs g a b c => ?_⟩, d, _, hi, upd_same, by rw [valV_put, if_pos rfl]⟩
  · rcases Decidable.em (d' = d) with e | e
    · exact ⟨_, by rw [e, upd_same]⟩
    · obtain ⟨kv, z⟩ := O1.dl d' h
      exact ⟨kv, by rw [upd_ne e]; exact z⟩
  · rcases old h with h | ⟨_, _, rfl⟩
    · obtain ⟨a, xs, b⟩ := O.el _ _ _ h
      exact ⟨a, xs, tk (e1 _ _ b)⟩
    · exact ⟨nlr, [], tk upd_same⟩
  · rcases old h1 with h1 | ⟨a1, b1, c1⟩
    · rcases old h2 with h2 | ⟨a2, b2, c2⟩
      · exact O.ww _ _ _ _ _ h1 h2
      · exact absurd (by rw [← c2]; exact h1) nle
    · rcases old h2 with h2 | ⟨a2, b2, c2⟩
      · exact absurd (by rw [← c1]; exact h2) nle
      · exact ⟨a1.trans a2.symm, b1.trans b2.symm⟩
  · rcases old a with a | ⟨_, _, rfl⟩
    · exact O1.wd i' x' r' gs g ((Ent.iff_upd (fun kv z => by rw [nl] at z; cases z)).mpr a) (tb b) c
    · have z := tb b
      rw [upd_same] at z
      have y : ([] : List Int) = gs := ints_inj (HO.lst.inj (Option.some.inj z))
      rw [← y] at c
      cases c
end
/-- the words of a state's dict: those of its steps -/
def KY (H : Hp) (ds : List Addr) (ts : List Stp) : Prop := ∀ (i : Nat) (d : Addr) (kvs : List (Key × V)), ds[i]? = some d → H d = some (.dK kvs) → ∀ kv ∈ kvs, ∃ t ∈ ts, t.a.toNat = i ∧ t.s ≠ Str.ofString "" ∧ kv.1 = .inr t.s
theorem KY.same {H H' : Hp} {rows ds : List Addr} {ts : List Stp} (Z : KY H ds ts) (Y : OY H rows ds ts) (e : Same H H') : KY H' ds ts := fun i d kvs hi hd => by
  obtain ⟨kvs', h⟩ := Y.dl d (List.mem_of_getElem? hi)
  have z := e _ _ h
  rw [hd] at z
  cases z
  exact Z i d kvs hi h
theorem KY.lst {H : Hp} {ds : List Addr} {ts ts' : List Stp} {r : Addr} {xs ys : List V} (Z : KY H ds ts) (hr : H r = some (.lst xs)) (sub : ∀ t ∈ ts, t ∈ ts') : KY (upd H r (.lst ys)) ds ts' := fun i d kvs hi hd kv hk => by
  have ne : d ≠ r := fun q => by rw [q, upd_same] at hd; cases hd
  rw [upd_ne ne] at hd
  obtain ⟨t, a, b⟩ := Z i d kvs hi hd kv hk
  exact ⟨t, sub t a, b⟩
theorem mem_put {kvs : List (Key × V)} {k : Key} {v : V} {kv : Key × V} (h : kv ∈ putK kvs k v) : kv.1 = k ∨ ∃ kv' ∈ kvs, kv'.1 = kv.1 := by
  unfold putK at h
  split at h
  · obtain ⟨y, hy, rfl⟩ := List.mem_map.mp h
    split
    · rename_i q; first | exact .inl q | exact .inl rfl
    · exact .inr ⟨y, hy, rfl⟩
  · rcases List.mem_append.mp h with h | h
    · exact .inr ⟨kv, h, rfl⟩
    · rw [List.mem_singleton.mp h]; exact .inl rfl
theorem KY.put {H : Hp} {ds : List Addr} {ts : List Stp} {t : Stp} {d l : Addr} {kvs : List (Key × V)} {v : V} {xs : List V} (Z : KY H ds ts) (nd : ds.Nodup) (nl : H l = none) (hi : ds[t.a.toNat]? = some d) (hd : H d = some (.dK kvs)) (ne : t.s ≠ Str.ofString "") :
    KY (upd (upd H l (.lst xs)) d (.dK (putK kvs (Sum.inr t.s) v))) ds (ts ++ [t]) := fun i d' kvs' hi' hd' kv hk => by
  have more : (∃ y ∈ ts, y.a.toNat = i ∧ y.s ≠ Str.ofString "" ∧ kv.1 = .inr y.s) → ∃ y ∈ ts ++ [t], y.a.toNat = i ∧ y.s ≠ Str.ofString "" ∧ kv.1 = .inr y.s := fun ⟨y, a, b⟩ => ⟨y, List.mem_append_left _ a, b⟩
  rcases Decidable.em (d' = d) with q | q
  · subst q
    rw [upd_same] at hd'
    cases hd'
    have ei := nodup_at nd hi' hi
    rcases mem_put hk with e | ⟨kv', hk', e⟩
    · exact ⟨t, List.mem_append_right _ (List.mem_singleton.mpr rfl), ei.symm, ne, e⟩
    · obtain ⟨y, a, b, c, f⟩ := Z i d' kvs hi' hd kv' hk'
      exact more ⟨y, a, b, c, e ▸ f⟩
  · rw [upd_ne q] at hd'
    have nq : d' ≠ l := fun z => by rw [z, upd_same] at hd'; cases hd'
    rw [upd_ne nq] at hd'
    exact more (Z i d' kvs' hi' hd' kv hk)
structure OYK (H : Hp) (rows ds : List Addr) (ts : List Stp) : Prop extends OY H rows ds ts where
  ks : KY H ds ts
theorem OYK.same {H H' : Hp} {rows ds : List Addr} {ts : List Stp} (O : OYK H rows ds ts) (e : Same H H') : OYK H' rows ds ts := ⟨O.toOY.same e, O.ks.same O.toOY e⟩
def oFlds (uA wA : Addr) : List (Str × V) := putF "by_word" (.ref wA) (putF "unseen" (.ref uA) [])
/-- an outlook at p, of these steps -/
def OutAt (CO : Addr) (H : Hp) (p : Addr) (many : Int) (ts : List Stp) : Prop := ∃ (dx uA wA : Addr) (rows ds : List Addr), H p = some (.ins CO dx (oFlds uA wA)) ∧ H uA = some (.lst (rows.map V.ref)) ∧ H wA = some (.lst (ds.map V.ref)) ∧
  (rows.length : Int) = many ∧ (ds.length : Int) = many ∧ (∀ r ∈ rows, LI many 64 H r) ∧
  (∀ d ∈ ds, ∃ kvs : List (Key × V), H d = some (.dK kvs) ∧ ∀ (k : Key) v, valV kvs k = some v → ∃ r, v = .ref r ∧ LI many 64 H r) ∧
  (∀ t ∈ ts, (t.s = Str.ofString "" → ∃ r, rows[t.a.toNat]? = some r ∧ Has H r t.g) ∧ ((t.s ≠ Str.ofString "" → ∃ d, ds[t.a.toNat]? = some d ∧ Wd H d t.s t.g))) ∧ OYK H rows ds ts
theorem OutAt.same {CO : Addr} {H H' : Hp} {p : Addr} {many : Int} {ts : List Stp} (e : Same H H') (h : OutAt CO H p many ts) : OutAt CO H' p many ts := by
  obtain ⟨dx, uA, wA, rows, ds, h1, h2, h3, h4, h5, h6, h7, h8, h9⟩ := h
  refine ⟨dx, uA, wA, rows, ds, e _ _ h1, e _ _ h2, e _ _ h3, h4, h5, fun r hr => ?_, fun d hd => ?_, fun t ht => ⟨fun c => ?_, fun c => ?_⟩, h9.same e⟩
  · obtain ⟨gs, a, b⟩ := h6 r hr
    exact ⟨gs, e _ _ a, b⟩
  · obtain ⟨kvs, a, b⟩ := h7 d hd
    exact ⟨kvs, e _ _ a, fun k v hv => let ⟨r, e1, gs, l⟩ := b k v hv; ⟨r, e1, gs, e _ _ l.1, l.2⟩⟩
  · obtain ⟨r, a, gs, b⟩ := (h8 t ht).1 c
    exact ⟨r, a, gs, e _ _ b.1, b.2⟩
  · obtain ⟨d, a, kvs, r, b, b2, gs, b3⟩ := (h8 t ht).2 c
    exact ⟨d, a, kvs, r, e _ _ b, b2, gs, e _ _ b3.1, b3.2⟩
def spOInit (CO : Addr) : Sp := fun vs H Q _ => ∃ (p dx a : Addr) (many : Int) (xs : List V) (ts : List Stp), vs = [.ref p, .int many, .ref a] ∧ H p = some (.ins CO dx []) ∧ H a = some (.lst xs) ∧ Tri H xs ts ∧ (∀ t ∈ ts, OkS many t) ∧ 0 ≤ many ∧ many ≤ 3000 ∧ xs.length < 64 ∧
  ∀ H', OutAt CO H' p many ts → Off p H H' → Q .non H'
structure TxtO (K : PySem.W.Frag) (mg : Str → Option Value) (CO : Addr) : Prop where
  cl : Cls K CO
  n_unseen : NoAttr K CO "unseen"
  n_by_word : NoAttr K CO "by_word"
  range : mg "range" = none
abbrev sOInit : Stmt := inClass (top 18) 0
abbrev nOI : List Str := ["self", "many", "steps", "state", "seen", "goal", "_"]
theorem scOI : FnScope nOI ["self", "many", "steps"] (defScope sOInit) := ⟨rfl, rfl, rfl, by decide +kernel, rfl, by decide +kernel, by decide +kernel⟩
set_option maxHeartbeats 1000000 in
theorem ok_oInit {f CO : Addr} {fd : FuncData} (F : Fun K "__init__" "Outlook.__init__" sOInit f fd) (T : TxtO K mg CO) : FnOk P w K mg base CX0 1 f fd ["self", "many", "steps"] (spOInit CO) := by
  refine F.ok scOI (fun vs H Q E h => ?_) (fun cdv A outer s H vs Q E hr h => ?_)
  · obtain ⟨p, dx, a, many, xs, ts, rfl, _⟩ := h
    rfl
  · obtain ⟨p, dx, a, many, xs, ts, rfl, hp, ha, tri, oks, m1, m2, few, k⟩ := h
    have nd := scOI.nd
    refine ⟨_, (pss_cons (ps_fld (pv 0) (pe_lc (own := [("_", 6)]) (by rfl) nd (pi_range1 (by rfl) T.range (pa_cons (pv 1) pa_nil)) (blkOk_by (N := nOI) (sc := defScope sOInit) (by decide +kernel)) (fun _ _ _ _ _ => (pg_name (i := 6) nd rfl (Or.inl rfl))) (fun _ _ _ _ _ => pts_nil) (fun _ _ _ _ _ => (pe_lst pa_nil))) rfl)
      (pss_cons (ps_fld (pv 0) (pe_lc (own := [("_", 6)]) (by rfl) nd (pi_range1 (by rfl) T.range (pa_cons (pv 1) pa_nil)) (blkOk_by (N := nOI) (sc := defScope sOInit) (by decide +kernel)) (fun _ _ _ _ _ => (pg_name (i := 6) nd rfl (Or.inl rfl))) (fun _ _ _ _ _ => pts_nil) (fun _ _ _ _ _ => pe_dnewK)) rfl)
      (pss_one (ps_for PassesOwn.never rfl (pi_list (pv 2)) (pg_tup rfl (pgs_cons (pg_name (i := 3) nd rfl (Or.inl rfl)) (pgs_cons (pg_name (i := 4) nd rfl (Or.inl rfl)) (pgs_cons (pg_name (i := 5) nd rfl (Or.inl rfl)) pgs_nil))))
        (pss_one (ps_if (pt_truth (pv 4) (by intro _; rfl))
          (pss_one (ps_expr (pe_bm PySem.F.plainAttrs_list PySem.F.slot_list_append PySem.F.type_list_append mt_append (pe_bm PySem.F.plainAttrs_dict PySem.F.slot_dict_setdefault PySem.F.type_dict_setdefault mt_setd (pe_ix ix_list (pe_fld (pv 0) rfl) (pv 3) (fun _ _ => rfl)) (pa_cons (pv 4) (pa_cons (pe_lst pa_nil) pa_nil))) (pa_cons (pv 5) pa_nil))))
          (pss_one (ps_expr (pe_bm PySem.F.plainAttrs_list PySem.F.slot_list_append PySem.F.type_list_append mt_append (pe_ix ix_list (pe_fld (pv 0) rfl) (pv 3) (fun _ _ => rfl)) (pa_cons (pv 5) pa_nil)))))))))), ?_⟩
    have lxs : xs.length = ts.length := PySem.Paired.length tri
    refine into_fld (news_value (o0 := .lst []) (fun σ H Q h => ⟨Nat.zero_le _, h⟩) rfl (fun v => rfl) m1 m2 fun H1 uA rows e1 nU hU lenU newU ndU => ?_)
    have hp1 := e1 _ _ hp
    have npU : uA ≠ p := ne_of hU hp1 (by intro y; cases y)
    refine ⟨_, rfl, p, CO, dx, _, rfl, hp1, T.cl, T.n_unseen, by decide, ?_⟩
    generalize hH2 : upd H1 p (.ins CO dx (putF "unseen" (V.ref uA) [])) = H2
    have hp2 : H2 p = some (.ins CO dx (putF "unseen" (V.ref uA) [])) := by rw [← hH2, upd_same]
    have o12 : Off p H1 H2 := by rw [← hH2]; exact .upd
    refine into_fld (news_value (o0 := .dK []) (fun σ H Q h => h) rfl (fun v => rfl) m1 m2 fun H3 wA ds e3 nW hW lenW newW ndW => ?_)
    have hp3 := e3 _ _ hp2
    have npW : wA ≠ p := ne_of hW hp3 (by intro y; cases y)
    refine ⟨_, rfl, p, CO, dx, _, rfl, hp3, T.cl, T.n_by_word, by have := length_putF "unseen" (V.ref uA) []; show _ < 1000; simp only [List.length_nil] at this; omega, ?_⟩
    generalize hH4 : upd H3 p (.ins CO dx (putF "by_word" (V.ref wA) (putF "unseen" (V.ref uA) []))) = H4
    have hp4 : H4 p = some (.ins CO dx (oFlds uA wA)) := by rw [← hH4, upd_same]; rfl
    have o34 : Off p H3 H4 := by rw [← hH4]; exact .upd
    have npr : ∀ r ∈ rows, r ≠ p := fun r hr => ne_of (newU r hr).1 hp1 (by intro y; cases y)
    have npd : ∀ d ∈ ds, d ≠ p := fun d hd => ne_of (newW d hd).1 hp3 (by intro y; cases y)
    have hr4 : ∀ r ∈ rows, H4 r = some (.lst []) := fun r hr => o34 _ _ (e3 _ _ (o12 _ _ (newU r hr).1 (npr r hr))) (npr r hr)
    have hd4 : ∀ d ∈ ds, H4 d = some (.dK []) := fun d hd => o34 _ _ (newW d hd).1 (npd d hd)
    have off04 : Off p H H4 := fun b o z n => o34 _ _ (e3 _ _ (o12 _ _ (e1 _ _ z) n)) n
    have hU4 := o34 _ _ (e3 _ _ (o12 _ _ hU npU)) npU
    have hW4 := o34 _ _ hW npW
    have ha4 := off04 _ _ ha (ne_of ha hp (by intro y; cases y))
    have tri4 : Tri H4 xs ts := tri.keep fun q us z => off04 _ _ z (ne_of z hp (by intro y; cases y))
    have nrow : ∀ {b o}, H b = some o → b ∉ rows := fun {b o} z hr => by have y := (newU b hr).2.1; rw [z] at y; cases y
    have nds : ∀ {b o}, H2 b = some o → b ∉ ds := fun {b o} z hr => by have y := (newW b hr).2.1; rw [z] at y; cases y
    have nds1 : ∀ {b o}, H b = some o → b ≠ p → b ∉ ds := fun {b o} z n => nds (o12 _ _ (e1 _ _ z) n)
    have npR : p ∉ rows := fun h => npr p h rfl
    have npD : p ∉ ds := fun h => npd p h rfl
    have nUr : uA ∉ rows := fun h => (newU uA h).2.2 rfl
    have nUd : uA ∉ ds := nds (o12 _ _ hU npU)
    have nWd : wA ∉ ds := fun h => (newW wA h).2.2 rfl
    have nWr : wA ∉ rows := fun h => by have z := hr4 wA h; rw [hW4] at z; cases ds with
      | nil =>
        have z1 : (rows.length : Int) = 0 := by rw [lenU, ← lenW]; rfl
        have z2 : rows = [] := List.length_eq_zero_iff.mp (by omega)
        rw [z2] at h; cases h
      | cons d ds => cases z
    have O4 : OI many 0 0 H4 H4 rows ds [] := ⟨fun b o z _ _ => z, fun r hr => ⟨[], hr4 r hr, fun g h => absurd h (by simp), Nat.zero_le _⟩, fun d hd => ⟨[], hd4 d hd, Nat.zero_le _, fun k v h => by cases h⟩, fun t ht => absurd ht (by simp)⟩
    have none4 : ∀ {i x r}, ¬ Ent H4 ds i x r := fun {i x r} ⟨d, kvs, a, b, c⟩ => by
      rw [hd4 d (List.mem_of_getElem? a)] at b
      cases b
      cases c
    have Y4 : OY H4 rows ds [] := ⟨ndU, ndW, fun r h => ⟨_, hr4 r h⟩, fun d h => ⟨_, hd4 d h⟩, fun i x r h => absurd h none4, fun i x i' x' r h => absurd h none4, fun i r gs g a b c => by
      rw [hr4 r (List.mem_of_getElem? a)] at b
      have z : ([] : List Int) = gs := ints_inj (HO.lst.inj (Option.some.inj b))
      rw [← z] at c
      exact absurd c (by simp), fun i x r gs g h => absurd h none4⟩
    have Z4 : KY H4 ds [] := fun i d kvs hi hd kv hk => by
      rw [hd4 d (List.mem_of_getElem? hi)] at hd
      cases hd
      cases hk
    refine ⟨_, rfl, a, rfl, ⟨_, SqL.of ha4⟩, for_list (K := K) (a := a) (xs := xs) (fun i σ H' => ∃ v3 v4 v5, σ = [some (.ref p), some (.int many), some (.ref a), v3, v4, v5, none] ∧ OI many i i H4 H' rows ds (ts.take i) ∧ OY H' rows ds (ts.take i) ∧ KY H' ds (ts.take i))
      ⟨none, none, none, rfl, O4, Y4, Z4⟩ (fun i σ H' _ ⟨_, _, _, _, O, _⟩ => SqL.of (O.off _ _ ha4 (nrow ha) (nds1 ha (ne_of ha hp (by intro y; cases y))))) ?_ ?_⟩
    · rintro i x σ H5 hx ⟨v3, v4, v5, rfl, O, Y, Z⟩
      obtain ⟨t, ht, q, rfl, hq⟩ := paired_get tri hx
      have lt : i < xs.length := (List.getElem?_eq_some_iff.mp hx).1
      have tm := List.mem_of_getElem? ht
      have ok := oks t tm
      have nqp : q ≠ p := ne_of hq hp (by intro y; cases y)
      have hq5 := O.off _ _ (off04 _ _ hq nqp) (nrow hq) (nds1 hq nqp)
      have hp5 := O.off _ _ hp4 npR npD
      have hU5 := O.off _ _ hU4 nUr nUd
      have hW5 := O.off _ _ hW4 nWr nWd
      have tk : ∀ {p' q' : Nat} {H' : Hp}, OI many p' q' H4 H' rows ds (ts.take i) → p' ≤ i + 1 → q' ≤ i + 1 → ((t.s = Str.ofString "" → ∃ r, rows[t.a.toNat]? = some r ∧ Has H' r t.g) ∧ (t.s ≠ Str.ofString "" → ∃ d, ds[t.a.toNat]? = some d ∧ Wd H' d t.s t.g)) → OY H' rows ds (ts.take i ++ [t]) → KY H' ds (ts.take i ++ [t]) →
          OI many (i + 1) (i + 1) H4 H' rows ds (ts.take (i + 1)) ∧ OY H' rows ds (ts.take (i + 1)) ∧ KY H' ds (ts.take (i + 1)) := fun {p' q' H'} O' l1 l2 new Y' Z' => by
        have O2 := O'.mono l1 l2
        refine ⟨⟨O2.off, O2.rw_, O2.dw, fun y hy => ?_⟩, by rw [List.take_add_one, ht]; exact Y', by rw [List.take_add_one, ht]; exact Z'⟩
        rcases (take_succ_mem ht y).mp hy with hy | rfl
        · exact O2.done y hy
        · exact new
      refine ⟨q, _, rfl, SqT.of hq5, rfl, _, _, rfl, _, _, rfl, _, _, rfl, rfl, ?_⟩
      refine ⟨_, rfl, _, ⟨wordE_len ok.2.2.2.2.2, rfl⟩, ?_⟩
      rw [str_zero]
      rcases Classical.em (t.s = Str.ofString "") with c | c
      · rw [decide_eq_true c]
        obtain ⟨r, hr1, hr2⟩ := ref_at (rows := rows) ok.1 (by have := ok.2.1; omega)
        obtain ⟨gs, g1, g2, g3⟩ := O.rw_ r (List.mem_of_getElem? hr1)
        refine iteF ⟨_, rfl, p, CO, dx, _, _, rfl, hp5, T.cl, T.n_unseen, ?_, _, rfl, uA, _, _, _, rfl, rfl, SqL.of hU5, hr2, .inl ⟨rfl, _, SqL.of g1⟩, _, rfl, r, _, _, rfl, rfl, g1, by rw [List.length_map, sizeLine_eq]; omega, _, _, _, rfl, ?_⟩
        · unfold oFlds; rw [lookup_putF, if_neg (by decide +kernel), lookup_putF, if_pos rfl]
        · refine tk (O.app g1 ⟨ok.2.2.1, ok.2.2.2.1⟩ (.inl (List.mem_of_getElem? hr1))) (Nat.le_refl _) (Nat.le_succ _) ⟨fun _ => ⟨r, hr1, gs ++ [t.g], by rw [upd_same, List.map_append]; rfl, List.mem_append_right _ (List.mem_singleton.mpr rfl)⟩, fun z => absurd c z⟩ (Y.app g1 (.inl ⟨hr1, c⟩)) (Z.lst g1 fun y hy => List.mem_append_left _ hy)
      · rw [decide_eq_false c]
        obtain ⟨d, hd1, hd2⟩ := ref_at (rows := ds) ok.1 (by have := ok.2.1; omega)
        have md := List.mem_of_getElem? hd1
        obtain ⟨kvs, kd, kl, ka⟩ := O.dw d md
        refine iteT ⟨_, rfl, p, CO, dx, _, _, rfl, hp5, T.cl, T.n_by_word, ?_, _, rfl, wA, _, _, _, rfl, rfl, SqL.of hW5, hd2, .inr (.inr (.inl ⟨rfl, .inl ⟨kvs, kd⟩⟩)), _, rfl, Nat.zero_le _, fun l nl => ?_⟩
        · unfold oFlds; rw [lookup_putF, if_pos rfl]
        have el : Same H5 (upd H5 l (.lst [])) := same_new nl
        have kd6 := el _ _ kd
        have O6 := O.lay nl
        refine ⟨d, kvs, (Sum.inr t.s : Key), .ref l, rfl, rfl, kd6, by rw [sizeLine_eq]; omega, fun u hu => ?_, fun hn => ?_⟩
        · obtain ⟨r, rfl, ⟨gs, g1, g2, g3⟩, g4⟩ := ka _ _ hu
          have g16 := el _ _ g1
          refine ⟨.inl ⟨rfl, _, SqL.of g16⟩, _, rfl, r, _, _, rfl, rfl, g16, by rw [List.length_map, sizeLine_eq]; omega, _, _, _, rfl, ?_⟩
          refine tk (O6.app g16 ⟨ok.2.2.1, ok.2.2.2.1⟩ (.inr g4)) (Nat.le_refl _) (Nat.le_succ _) ⟨fun z => absurd z c, fun _ => ⟨d, hd1, kvs, r, by rw [upd_ne (ne_of kd6 g16 (by intro y; cases y))]; exact kd6, hu, gs ++ [t.g], by rw [upd_same, List.map_append]; rfl, List.mem_append_right _ (List.mem_singleton.mpr rfl)⟩⟩ ((Y.lay nl).app g16 (.inr ⟨d, kvs, hd1, kd6, hu⟩)) ((Z.same Y el).lst g16 fun y hy => List.mem_append_left _ hy)
        · have nl4 : H4 l = none := by
            cases z : H4 l with
            | none => rfl
            | some o =>
              rcases Classical.em (l ∈ rows) with y | y
              · obtain ⟨gs, g1, _⟩ := O.rw_ l y
                rw [nl] at g1; cases g1
              · rcases Classical.em (l ∈ ds) with y2 | y2
                · obtain ⟨kk, g1, _⟩ := O.dw l y2
                  rw [nl] at g1; cases g1
                · have g1 := O.off _ _ z y y2
                  rw [nl] at g1; cases g1
          have O7 := O6.put kd6 md upd_same nl4 hn
          have Y7 := Y.fresh nl hd1 kd hn
          have Z7 := Z.put (xs := []) (v := .ref l) Y.dn nl hd1 kd c
          generalize hH7 : upd (upd H5 l (.lst [])) d (.dK (putK kvs (Sum.inr t.s) (.ref l))) = H7 at O7 Y7 Z7
          have nld : l ≠ d := fun z => by rw [z, kd] at nl; cases nl
          have hl7 : H7 l = some (.lst (([] : List Int).map V.int)) := by rw [← hH7, upd_ne nld, upd_same]; rfl
          have hd7 : H7 d = some (.dK (putK kvs (Sum.inr t.s) (.ref l))) := by rw [← hH7, upd_same]
          refine ⟨.inl ⟨rfl, _, SqL.of hl7⟩, _, rfl, l, _, _, rfl, rfl, hl7, by rw [List.length_map, sizeLine_eq]; decide, _, _, _, rfl, ?_⟩
          refine tk (O7.app hl7 ⟨ok.2.2.1, ok.2.2.2.1⟩ (.inr nl4)) (Nat.le_refl _) (Nat.le_refl _) ⟨fun z => absurd z c, fun _ => ⟨d, hd1, _, l, by rw [upd_ne (Ne.symm nld)]; exact hd7, by rw [valV_put, if_pos rfl], [t.g], by rw [upd_same]; rfl, List.mem_singleton.mpr rfl⟩⟩ (Y7.1.app hl7 (.inr Y7.2)) (Z7.lst hl7 fun y hy => hy)
    · rintro σ H5 ⟨v3, v4, v5, rfl, O, Y, Z⟩
      rw [lxs, List.take_length] at O Y Z
      refine k H5 ⟨dx, uA, wA, rows, ds, O.off _ _ hp4 npR npD, O.off _ _ hU4 nUr nUd, O.off _ _ hW4 nWr nWd, lenU, lenW, fun r hr => (O.rw_ r hr).mono (by omega), fun d hd => ?_, O.done, ⟨Y, Z⟩⟩ fun b o z n => O.off _ _ (off04 _ _ z n) (nrow z) (nds1 z n)
      obtain ⟨kvs, c1, c2, c3⟩ := O.dw d hd
      exact ⟨kvs, c1, fun k v h => let ⟨r, e, l, _⟩ := c3 k v h; ⟨r, e, l.mono (by omega)⟩⟩
end
end K1
end
section
/-! Small lemmas of lists. -/
namespace K1
open PySem L2
theorem short_any {α : Type} [DecidableEq α] : ∀ {l m : List α}, l.Nodup → (∀ s ∈ l, s ∈ m) → l.length ≤ m.length
  | [], m, _, _ => Nat.zero_le _
  | s :: l, m, n, h => by
    obtain ⟨n1, n2⟩ := List.nodup_cons.mp n
    have hm := h s (List.mem_cons_self ..)
    have ih := short_any (l := l) (m := m.erase s) n2 fun t ht => (List.mem_erase_of_ne (fun e => n1 (by rw [← e]; exact ht))).mpr (h t (List.mem_cons_of_mem _ ht))
    rw [List.length_erase_of_mem hm] at ih
    have := List.length_pos_of_mem hm
    rw [List.length_cons]; omega
theorem few_ints {fs : List Int} {many : Int} (nd : fs.Nodup) (h : ∀ x ∈ fs, 0 ≤ x ∧ x < many) : fs.length ≤ many.toNat := by
  have z := short_any (m := (List.range many.toNat).map fun (i : Nat) => (i : Int)) nd fun x hx => by
    obtain ⟨a, b⟩ := h x hx
    exact List.mem_map.mpr ⟨x.toNat, List.mem_range.mpr (by omega), by omega⟩
  simpa using z
theorem int_at {fs : List Int} {n : Nat} (h : n < fs.length) : ∃ x, fs[n]? = some x ∧ atI (fs.map V.int) (n : Int) = some (.int x) :=
  ⟨fs[n], List.getElem?_eq_getElem h, atI_nat (by rw [List.getElem?_map, List.getElem?_eq_getElem h]; rfl)⟩
theorem inV_str (x : Str) (ks : List Str) : inV (.str x) (ks.map V.str) = decide (x ∈ ks) := by
  rw [Bool.eq_iff_iff, decide_eq_true_iff]
  unfold inV
  rw [List.any_map, List.any_eq_true]
  constructor
  · rintro ⟨k, hk, e⟩
    have z : (k == x) = true := e
    rw [← beq_iff_eq.mp z]; exact hk
  · intro h
    exact ⟨x, h, (beq_self_eq_true x : (x == x) = true)⟩
theorem flat_strs : ∀ ks : List Str, (ks.map V.str).all flatV = true
  | [] => rfl
  | _ :: ks => by rw [List.map_cons, List.all_cons, flat_strs ks]; rfl
end K1
end
section
/-! States spread. -/
namespace K1
open PySem L2
open MX (Rise Up)
section
variable {P : Program} {w : World} {K : PySem.W.Frag} {mg : Str → Option Value} {base : Heap}
def Closed (ts : List Stp) (ms : List Int) : Prop := ∀ t ∈ ts, t.s = Str.ofString "" → t.a ∈ ms → t.g ∈ ms
def InR (many : Int) (ns : List Int) : Prop := ∀ x ∈ ns, 0 ≤ x ∧ x < many
theorem lefts : ∀ {M : List Key}, (∀ k ∈ M, k.isLeft = true) → ∃ ns : List Int, M = ns.map Sum.inl
  | [], _ => ⟨[], rfl⟩
  | k :: M, h => by
    obtain ⟨ns, e⟩ := lefts fun q hq => h q (List.mem_cons_of_mem _ hq)
    cases k with
    | inl i => exact ⟨i :: ns, by rw [e]; rfl⟩
    | inr x => exact absurd (h _ (List.mem_cons_self ..)) Bool.false_ne_true
theorem mem_inl {x : Int} {ns : List Int} : (Sum.inl x : Key) ∈ ns.map Sum.inl ↔ x ∈ ns := by
  constructor
  · intro h
    obtain ⟨y, hy, e⟩ := List.mem_map.mp h
    cases e; exact hy
  · exact fun h => List.mem_map_of_mem h
theorem ints_keys (ns : List Int) : (ns.map (Sum.inl : Int → Key)).map kV = ns.map V.int := by rw [List.map_map]; rfl
structure SSt (P : Program) (w : World) (many : Int) (H H' : Hp) (l d : Addr) (b : Nat) (fs : List Int) : Prop where
  same : Same H H'
  lst : H' l = some (.lst (fs.map V.int))
  set : ∃ S n, H' d = some (MX.SetQO P w d S n) ∧ n ≤ b + fs.length ∧ ∀ x : Int, S (Sum.inl x) = true ↔ x ∈ fs
  nd : fs.Nodup
  ins : InR many fs
theorem SSt.add {many : Int} {H H' : Hp} {l d : Addr} {b n : Nat} {fs : List Int} {x : Int} {S : Key → Bool} (R : SSt P w many H H' l d b fs) (nl : H l = none) (ndl : l ≠ d) (nd' : H d = none) (hk : H' d = some (MX.SetQO P w d S n)) (hl : n ≤ b + fs.length) (hm : ∀ x : Int, S (Sum.inl x) = true ↔ x ∈ fs)
    (new : x ∉ fs) (hx : 0 ≤ x ∧ x < many) : SSt P w many H (upd (upd H' d (MX.SetQO P w d (fun j => S j || decide (j = Sum.inl x)) (if S (Sum.inl x) = true then n else n + 1))) l (.lst (fs.map V.int ++ [V.int x]))) l d b (fs ++ [x]) where
  same := fun b o z => by
    rw [upd_ne (ne_of_none z nl), upd_ne (ne_of_none z nd')]
    exact R.same b o z
  lst := by rw [upd_same, List.map_append]; rfl
  set := by
    refine ⟨_, _, by rw [upd_ne (Ne.symm ndl), upd_same], ?_, fun y => ?_⟩
    · rw [List.length_append]
      split
      · show _ ≤ _ + (_ + 1); omega
      · show _ ≤ _ + (_ + 1); omega
    · rw [Bool.or_eq_true, hm y, decide_eq_true_iff, List.mem_append, List.mem_singleton]
      exact or_congr Iff.rfl ⟨fun z => Sum.inl.inj z, fun z => by rw [z]⟩
  nd := List.nodup_append.mpr ⟨R.nd, by simp, fun a ha b hb e => new (by rw [← List.mem_singleton.mp hb, ← e]; exact ha)⟩
  ins := fun y hy => by
    rcases List.mem_append.mp hy with hy | hy
    · exact R.ins y hy
    · rw [List.mem_singleton.mp hy]; exact hx
/-- by unseen steps -/
inductive Un (ts : List Stp) : Int → Int → Prop
  | refl {a : Int} : Un ts a a
  | step {a : Int} {t : Stp} (h : Un ts a t.a) (m : t ∈ ts) (e : t.s = Str.ofString "") : Un ts a t.g
def Clo (ts : List Stp) (ns : List Int) (x : Int) : Prop := ∃ y ∈ ns, Un ts y x
/-- some states and those behind unseen steps, ascending -/
noncomputable def spr (ts : List Stp) (many : Int) (ns : List Int) : List Int := ((List.range many.toNat).map Int.ofNat).filter fun x => @decide (Clo ts ns x) (Classical.propDecidable _)
theorem mem_range {many x : Int} : x ∈ (List.range many.toNat).map Int.ofNat ↔ 0 ≤ x ∧ x < many := by
  rw [List.mem_map]
  constructor
  · rintro ⟨n, hn, rfl⟩
    have := List.mem_range.mp hn
    exact ⟨Int.natCast_nonneg n, by show (n : Int) < many; omega⟩
  · rintro ⟨h1, h2⟩
    exact ⟨x.toNat, List.mem_range.mpr (by omega), by show ((x.toNat : Nat) : Int) = x; omega⟩
theorem mem_spr {ts : List Stp} {many : Int} {ns : List Int} {x : Int} : x ∈ spr ts many ns ↔ (0 ≤ x ∧ x < many) ∧ Clo ts ns x := by
  unfold spr
  rw [List.mem_filter, mem_range]
  exact and_congr Iff.rfl (@decide_eq_true_iff _ (Classical.propDecidable _))
theorem spr_asc {ts : List Stp} {many : Int} {ns : List Int} : (spr ts many ns).Pairwise (· < ·) := by
  refine List.Pairwise.filter _ (List.pairwise_map.mpr (List.pairwise_lt_range.imp fun {a b} h => ?_))
  show (a : Int) < (b : Int)
  omega
theorem spr_inr {ts : List Stp} {many : Int} {ns : List Int} : InR many (spr ts many ns) := fun x hx => (mem_spr.mp hx).1
theorem spr_nodup {ts : List Stp} {many : Int} {ns : List Int} : (spr ts many ns).Nodup := spr_asc.imp fun {a b} h e => by rw [e] at h; exact Int.lt_irrefl _ h
theorem asc_eq : ∀ {xs ys : List Int}, xs.Pairwise (· < ·) → ys.Pairwise (· < ·) → (∀ x, x ∈ xs ↔ x ∈ ys) → xs = ys
  | [], [], _, _, _ => rfl
  | [], y :: ys, _, _, h => absurd ((h y).mpr List.mem_cons_self) (by simp)
  | x :: xs, [], _, _, h => absurd ((h x).mp List.mem_cons_self) (by simp)
  | x :: xs, y :: ys, hx, hy, h => by
    obtain ⟨hx1, hx2⟩ := List.pairwise_cons.mp hx
    obtain ⟨hy1, hy2⟩ := List.pairwise_cons.mp hy
    have e : x = y := by
      rcases List.mem_cons.mp ((h x).mp List.mem_cons_self) with e | m1
      · exact e
      · rcases List.mem_cons.mp ((h y).mpr List.mem_cons_self) with e | m2
        · exact e.symm
        · exact absurd (Int.lt_trans (hy1 x m1) (hx1 y m2)) (Int.lt_irrefl _)
    subst e
    rw [asc_eq hx2 hy2 fun z => ?_]
    constructor
    · intro m
      rcases List.mem_cons.mp ((h z).mp (List.mem_cons_of_mem _ m)) with e | m'
      · have := hx1 z m; rw [e] at this; exact absurd this (Int.lt_irrefl _)
      · exact m'
    · intro m
      rcases List.mem_cons.mp ((h z).mpr (List.mem_cons_of_mem _ m)) with e | m'
      · have := hy1 z m; rw [e] at this; exact absurd this (Int.lt_irrefl _)
      · exact m'
theorem spr_mem {ts : List Stp} {many : Int} {ns ms : List Int} (h : ∀ x, x ∈ ns ↔ x ∈ ms) : spr ts many ns = spr ts many ms := asc_eq spr_asc spr_asc fun x => by
  rw [mem_spr, mem_spr]
  exact and_congr Iff.rfl ⟨fun ⟨y, m, u⟩ => ⟨y, (h y).mp m, u⟩, fun ⟨y, m, u⟩ => ⟨y, (h y).mpr m, u⟩⟩
theorem Closed.un {ts : List Stp} {ms : List Int} (cl : Closed ts ms) {a b : Int} (u : Un ts a b) (h : a ∈ ms) : b ∈ ms := by
  induction u with
  | refl => exact h
  | step _ m e ih => exact cl _ m e ih
theorem spr_is {ts : List Stp} {many : Int} {ns ms : List Int} (asc : ms.Pairwise (· ≤ ·)) (nd : ms.Nodup) (inr : InR many ms) (sub : ∀ x ∈ ns, x ∈ ms) (cl : Closed ts ms) (only : ∀ x ∈ ms, Clo ts ns x) : ms = spr ts many ns := by
  have lt : ms.Pairwise (· < ·) := (List.Pairwise.and asc nd).imp fun {a b} h => by
    have h1 := h.1
    have h2 : a ≠ b := h.2
    show a < b
    omega
  refine asc_eq lt spr_asc fun x => ?_
  rw [mem_spr]
  exact ⟨fun m => ⟨inr x m, only x m⟩, fun ⟨_, y, m, u⟩ => cl.un u (sub y m)⟩
def spSpread (CO : Addr) : Sp := fun vs H Q _ => ∃ (p a : Addr) (many : Int) (ts : List Stp) (ns : List Int), vs = [.ref p, .ref a] ∧ OutAt CO H p many ts ∧ (∀ t ∈ ts, OkS many t) ∧ many < 60 ∧ (H a = some (.lst (ns.map V.int)) ∨ H a = some (.tup (ns.map V.int))) ∧ ns.length ≤ 3900 ∧ InR many ns ∧
  ∀ H' t, Same H H' → H' t = some (.tup ((spr ts many ns).map V.int)) → Q (.ref t) H'
structure TxtSp (K : PySem.W.Frag) (mg : Str → Option Value) (CO : Addr) : Prop where
  cl : Cls K CO
  n_unseen : NoAttr K CO "unseen"
  len : mg "len" = none
  sorted : mg "sorted" = none
  set : mg "set" = none
  tuple : mg "tuple" = none
theorem lk_unseen {uA wA : Addr} : (oFlds uA wA).lookup ("unseen" : Str) = some (.ref uA) := by
  unfold oFlds; rw [lookup_putF, if_neg (by decide +kernel), lookup_putF, if_pos rfl]
theorem lk_word {uA wA : Addr} : (oFlds uA wA).lookup ("by_word" : Str) = some (.ref wA) := by
  unfold oFlds; rw [lookup_putF, if_pos rfl]
abbrev sSpread : Stmt := inClass (top 18) 1
theorem scSpread : FnScope ["self", "states", "queue", "at", "known", "state", "goal"] ["self", "states"] (defScope sSpread) := ⟨rfl, rfl, rfl, by decide +kernel, rfl, by decide +kernel, by decide +kernel⟩
set_option maxHeartbeats 1000000 in
theorem ok_spread {f CO : Addr} {fd : FuncData} (F : Fun K "spread" "Outlook.spread" sSpread f fd) (T : TxtSp K mg CO) : FnOk P w K mg base CX0 2 f fd ["self", "states"] (spSpread CO) := by
  refine F.ok scSpread (fun vs H Q E h => ?_) (fun cdv A outer s H vs Q E hr h => ?_)
  · obtain ⟨p, a, many, ts, ns, rfl, _⟩ := h
    rfl
  · obtain ⟨p, a, many, ts, ns, rfl, O, oks, m2, ha, few, inr, k⟩ := h
    have nd := scSpread.nd
    have hu := hr.units
    refine ⟨_, (pss_cons (ps_par (i := 2) (j := 3) (by rfl) nd rfl rfl (by decide) rfl rfl (pa_cons (pe_callB (MX.cr_sortedQ rfl hu) (by rfl) T.sorted (by decide +kernel) (pa_cons (pe_callTy (MX.cr_setQ rfl hu) (by rfl) T.set (by decide +kernel) (pa_cons (pv 1) pa_nil)) pa_nil)) (pa_cons pe_int pa_nil)) (by rfl))
      (pss_cons (ps_set (i := 4) nd rfl (Or.inl rfl) (pe_callTy (MX.cr_setQ rfl hu) (by rfl) T.set (by decide +kernel) (pa_cons (pv 1) pa_nil)))
      (pss_cons (ps_while PassesOwn.never (pt_cmpR op_lt (pv 3) (pe_callB call_len_seq (by rfl) T.len PySem.boot_len (pa_cons (pv 2) pa_nil)) (nomark _))
        (pss_cons (ps_set (i := 5) nd rfl (Or.inl rfl) (pe_ix ix_list (pv 2) (pv 3) (fun _ _ => rfl)))
        (pss_cons (ps_for PassesOwn.never rfl (pi_list (pe_ix ix_list (pe_fld (pv 0) rfl) (pv 5) (fun _ _ => rfl))) (pg_name (i := 6) nd rfl (Or.inl rfl))
          (pss_one (ps_if (pt_cmpR MX.op_notInQ (pv 6) (pv 4) rfl)
            (pss_cons (ps_expr (MX.pe_addQ (pv 4) (pa_cons (pv 6) pa_nil)))
            (pss_one (ps_expr (pe_bm PySem.F.plainAttrs_list PySem.F.slot_list_append PySem.F.type_list_append mt_append (pv 2) (pa_cons (pv 6) pa_nil)))))
            pss_nil)))
        (pss_one (ps_aug (i := 3) nd rfl (Or.inl rfl) pe_int ip_add)))))
      (pss_one (ps_ret (pe_callTy call_tuple_of (by rfl) T.tuple (by decide +kernel) (pa_cons (pe_callB cr_sorted (by rfl) T.sorted (by decide +kernel) (pa_cons (pv 2) pa_nil)) pa_nil))))))), ?_⟩
    have O0 := O
    obtain ⟨dx, uA, wA, rows, ds, hp, hU, hW, lenU, lenW, liU, diW, done, Y⟩ := O0
    have seq : ∀ {H'}, Same H H' → SqL K H' a ((ns.map (Sum.inl : Int → Key)).map kV) ∨ SqT K H' a ((ns.map (Sum.inl : Int → Key)).map kV) := fun {H'} e => by
      rw [ints_keys]
      exact ha.imp (fun h => SqL.of (e _ _ h)) fun h => SqT.of (e _ _ h)
    have l4 : (ns.map (Sum.inl : Int → Key)).length < 4096 := by rw [List.length_map]; omega
    refine ⟨_, rfl, a, ns.map Sum.inl, rfl, seq (Same.refl H), l4, fun s1 S1 n1 new1 mem1 le1 => ⟨s1, S1, n1, true, rfl, upd_same, fun k hk => ?_, fun M l up hM lenM nl => ⟨_, _, rfl, ?_⟩⟩⟩
    · obtain ⟨x, _, e⟩ := List.mem_map.mp ((mem1 k).mp hk)
      rw [← e]; rfl
    obtain ⟨fs0, rfl⟩ := lefts fun k hk => by
      obtain ⟨x, _, e⟩ := List.mem_map.mp ((mem1 k).mp ((hM k).mp hk))
      rw [← e]; rfl
    have e1 : Same H (upd H s1 (MX.SetQO P w s1 S1 n1)) := same_new new1
    have e2 := e1.trans (same_new (o := .lst ((fs0.map (Sum.inl : Int → Key)).map kV)) nl)
    have mem0 : ∀ x, x ∈ fs0 ↔ x ∈ ns := fun x => by rw [← mem_inl, hM, mem1, mem_inl]
    refine ⟨_, rfl, a, ns.map Sum.inl, rfl, seq e2, l4, fun d S n nd0 memS leS => ?_⟩
    have nlH : H l = none := e1.free nl
    have ndH : H d = none := e2.free nd0
    have nld : l ≠ d := fun z => by rw [← z, upd_same] at nd0; cases nd0
    have R1 : SSt P w many H (upd (upd (upd H s1 (MX.SetQO P w s1 S1 n1)) l (.lst ((fs0.map (Sum.inl : Int → Key)).map kV))) d (MX.SetQO P w d S n)) l d ns.length fs0 := by
      refine ⟨e2.trans (same_new nd0), ?_, ⟨S, n, upd_same, ?_, fun x => ?_⟩, ?_, fun x hx => inr x ((mem0 x).mp hx)⟩
      · rw [upd_ne nld, upd_same, ints_keys]
      · rw [List.length_map] at leS; omega
      · rw [memS, mem_inl]; exact (mem0 x).symm
      · have ndk : (fs0.map (Sum.inl : Int → Key)).Nodup := up.imp fun {a b} h e => by rw [e, MX.kl_irrefl] at h; cases h
        exact List.Pairwise.of_map Sum.inl (fun a b h e => h (by rw [e])) ndk
    have ns0 : ∀ x ∈ ns, x ∈ fs0 := fun x hx => (mem0 x).mpr hx
    refine into (while_by (fun σ H' => ∃ (fs : List Int) (n : Nat) (v5 v6 : Option V), σ = [some (.ref p), some (.ref a), some (.ref l), some (.int (n : Int)), some (.ref d), v5, v6] ∧ SSt P w many H H' l d ns.length fs ∧ n ≤ fs.length ∧ (∀ x ∈ ns, x ∈ fs) ∧ (∀ t ∈ ts, t.s = Str.ofString "" → t.a ∈ fs.take n → t.g ∈ fs) ∧ ∀ x ∈ fs, Clo ts ns x)
      (fun (σ : L2.St) _ => match σ[3]? with | some (some (V.int i)) => many.toNat - i.toNat | _ => 0) ⟨fs0, 0, none, none, rfl, R1, Nat.zero_le _, ns0, fun s _ _ h => absurd h (by simp), fun x hx => ⟨x, (mem0 x).mp hx, .refl⟩⟩ ?_ ?_)
    · rintro σ H2 ⟨fs, n, v5, v6, rfl, R, hn, nsf, cl, only⟩
      have lenfs := few_ints R.nd R.ins
      refine ⟨_, rfl, _, rfl, l, _, rfl, .inl (SqL.of R.lst), _, _, rfl, rfl, _, rfl, ?_⟩
      rw [List.length_map]
      rcases Nat.lt_or_ge n fs.length with c | c
      · rw [decide_eq_true (show (n : Int) < (fs.length : Int) by omega)]
        refine iteT ?_
        obtain ⟨st, hst, hat⟩ := int_at c
        have stm := List.mem_of_getElem? hst
        have hst2 := R.ins st stm
        refine ⟨_, rfl, _, rfl, l, _, _, _, rfl, rfl, SqL.of R.lst, hat, ?_⟩
        obtain ⟨r, hr1, hr2⟩ := ref_at (rows := rows) hst2.1 (by have := hst2.2; omega)
        obtain ⟨gs, hg, ging, gl⟩ := liU r (List.mem_of_getElem? hr1)
        refine into ⟨_, rfl, p, CO, dx, _, _, rfl, R.same _ _ hp, T.cl, T.n_unseen, lk_unseen, _, rfl, uA, _, _, _, rfl, rfl, SqL.of (R.same _ _ hU), hr2, r, rfl, ⟨_, SqL.of (R.same _ _ hg)⟩,
          for_list (K := K) (a := r) (xs := gs.map V.int) (fun j σ H' => ∃ (hs : List Int) (v6 : Option V), σ = [some (.ref p), some (.ref a), some (.ref l), some (.int (n : Int)), some (.ref d), some (.int st), v6] ∧ SSt P w many H H' l d ns.length (fs ++ hs) ∧ (∀ g ∈ gs.take j, g ∈ fs ++ hs) ∧ ∀ x ∈ fs ++ hs, Clo ts ns x)
            ⟨[], _, rfl, by rw [List.append_nil]; exact R, fun s h => absurd h (by simp), by rw [List.append_nil]; exact only⟩ (fun j σ H' _ ⟨_, _, _, R', _⟩ => SqL.of (R'.same _ _ hg)) ?_ ?_⟩
        · rintro j x σ H3 hx ⟨hs, v6, rfl, R3, cl3, only3⟩
          obtain ⟨g, hgj, rfl⟩ : ∃ g, gs[j]? = some g ∧ x = V.int g := by
            rw [List.getElem?_map] at hx
            cases e : gs[j]? with
            | none => rw [e] at hx; cases hx
            | some g => rw [e] at hx; exact ⟨g, rfl, (Option.some.inj hx).symm⟩
          obtain ⟨S3, n3, hk, kl, km⟩ := R3.set
          have len3 := few_ints R3.nd R3.ins
          have tk : ∀ gs', (∀ y ∈ fs ++ hs, y ∈ fs ++ gs') → g ∈ fs ++ gs' → ∀ t ∈ gs.take (j + 1), t ∈ fs ++ gs' := fun gs' sub h t ht => by
            rw [List.take_add_one, hgj] at ht
            rcases List.mem_append.mp ht with ht | ht
            · exact sub _ (cl3 t ht)
            · rw [List.mem_singleton.mp (show t ∈ [g] from ht)]; exact h
          refine ⟨_, rfl, _, rfl, (Sum.inl g : Key), d, S3, n3, rfl, rfl, hk, _, rfl, ?_⟩
          rw [if_pos rfl]
          rcases Decidable.em (g ∈ fs ++ hs) with c2 | c2
          · rw [(km g).mpr c2]
            exact iteF ⟨hs, _, rfl, R3, tk hs (fun y h => h) c2, only3⟩
          · have e : S3 (Sum.inl g) = false := by
              cases z : S3 (Sum.inl g) with
              | false => rfl
              | true => exact absurd ((km g).mp z) c2
            have big : n3 + 1 < 4096 := by
              have : many.toNat < 60 := by omega
              omega
            rw [e]
            refine iteT ⟨_, rfl, ⟨d, S3, n3, rfl, hk⟩, _, rfl, d, (Sum.inl g : Key), S3, n3, rfl, rfl, hk, big, ?_⟩
            have hl4 : (upd H3 d (MX.SetQO P w d (fun j => S3 j || decide (j = Sum.inl g)) (if S3 (Sum.inl g) = true then n3 else n3 + 1))) l = some (.lst ((fs ++ hs).map V.int)) := by rw [upd_ne nld]; exact R3.lst
            refine ⟨_, rfl, .inl ⟨rfl, _, SqL.of hl4⟩, _, rfl, l, _, _, rfl, rfl, hl4, by rw [List.length_map, sizeLine_eq]; omega, hs ++ [g], _, rfl, ?_, tk _ (fun y h => by rw [← List.append_assoc]; exact List.mem_append_left _ h) (by rw [← List.append_assoc]; exact List.mem_append_right _ (List.mem_singleton.mpr rfl)), fun x hx => ?_⟩
            · rw [← List.append_assoc]
              exact R3.add nlH nld ndH hk kl km c2 (ging g (List.mem_of_getElem? hgj))
            · rw [← List.append_assoc] at hx
              rcases List.mem_append.mp hx with hx | hx
              · exact only3 x hx
              · rw [List.mem_singleton.mp hx]
                obtain ⟨t, tm, ta, te, tg⟩ := Y.un st.toNat r gs g hr1 hg (List.mem_of_getElem? hgj)
                have ea : t.a = st := by have := (oks t tm).1; have := hst2.1; omega
                obtain ⟨y, ym, yu⟩ := only st stm
                exact ⟨y, ym, by rw [← tg]; exact Un.step (by rw [ea]; exact yu) tm te⟩
        · rintro σ H3 ⟨hs, v6, rfl, R3, cl3, only3⟩
          rw [List.length_map, List.take_length] at cl3
          refine ⟨_, rfl, _, _, rfl, rfl, ⟨fs ++ hs, n + 1, _, _, rfl, R3, by rw [List.length_append]; omega, fun x hx => List.mem_append_left _ (nsf x hx), fun t ht e ha => ?_, only3⟩, ?_⟩
          · rw [List.take_append_of_le_length c, List.take_add_one, hst] at ha
            rcases List.mem_append.mp ha with ha | ha
            · exact List.mem_append_left _ (cl t ht e ha)
            · have ea : t.a = st := List.mem_singleton.mp (show t.a ∈ [st] from ha)
              obtain ⟨r', a1, gs', a2, a3⟩ := (done t ht).1 e
              rw [ea, hr1] at a1
              cases a1
              rw [hg] at a2
              rw [← ints_inj (HO.lst.inj (Option.some.inj a2))] at a3
              exact cl3 _ a3
          · show many.toNat - ((n : Int) + 1).toNat < many.toNat - ((n : Nat) : Int).toNat
            omega
      · rw [decide_eq_false (show ¬ (n : Int) < (fs.length : Int) by omega)]
        have en : n = fs.length := Nat.le_antisymm hn c
        rw [en, List.take_length] at cl
        refine iteF ⟨_, rfl, l, fs, rfl, SqL.of R.lst, by omega, fun ms q pm asc nq => ⟨q, _, rfl, .inl ⟨SqL.of upd_same, fun t nt => ?_⟩⟩⟩
        have is := spr_is (ts := ts) (many := many) (ns := ns) asc (pm.nodup_iff.mpr R.nd) (fun x hx => R.ins x (pm.mem_iff.mp hx)) (fun x hx => pm.mem_iff.mpr (nsf x hx)) (fun t ht e ha => pm.mem_iff.mpr (cl t ht e (pm.mem_iff.mp ha))) fun x hx => only x (pm.mem_iff.mp hx)
        exact k _ t (R.same.trans ((same_new nq).trans (same_new nt))) (by rw [← is]; exact upd_same)
    · intro σ H2 Q1 Q2 hQ h
      obtain ⟨v, e1, v2, e2, p1, ys, e3, e4, i, j, e5, e6, b, e7, q⟩ := h
      exact ⟨v, e1, v2, e2, p1, ys, e3, e4, i, j, e5, e6, b, e7, hQ _ _ q⟩
end
end K1
end
section
namespace L2
open PySem PySem.Spec PyProof.Rows
section
variable {X : Cx} {K : PySem.W.Frag}
theorem pe_fldK {e : Expr} {ta : TE} {f : Str} {pos : Pos} (hK : X.K = K) (he : PE X e ta) (hb : attributeBase e f X.env (eval e X.env) = eval e X.env) : PE X (.Attribute e f pos) (tFld K ta f) := by
  subst hK
  exact pe_fld he hb
end
end L2
end
section
/-! Behind a word; traces. -/
namespace K1
open PySem L2
open MX (Rise Up)
section
variable {P : Program} {w : World} {K : PySem.W.Frag} {mg : Str → Option Value} {base : Heap}
/-- where steps lead that show a word -/
def goals (ts : List Stp) (ns : List Int) (wd : Str) : List Int := (ts.filter fun t => decide (t.s = wd) && decide (t.a ∈ ns)).map Stp.g
theorem mem_goals {ts : List Stp} {ns : List Int} {wd : Str} {x : Int} : x ∈ goals ts ns wd ↔ ∃ t ∈ ts, t.s = wd ∧ t.a ∈ ns ∧ t.g = x := by
  unfold goals
  rw [List.mem_map]
  constructor
  · rintro ⟨t, ht, rfl⟩
    obtain ⟨h1, h2⟩ := List.mem_filter.mp ht
    obtain ⟨h3, h4⟩ := Bool.and_eq_true_iff.mp h2
    exact ⟨t, h1, of_decide_eq_true h3, of_decide_eq_true h4, rfl⟩
  · rintro ⟨t, h1, h2, h3, rfl⟩
    exact ⟨t, List.mem_filter.mpr ⟨h1, Bool.and_eq_true_iff.mpr ⟨decide_eq_true h2, decide_eq_true h3⟩⟩, rfl⟩
/-- the states behind a word -/
noncomputable def aft (ts : List Stp) (many : Int) (ns : List Int) (wd : Str) : List Int := spr ts many (goals ts ns wd)
def spAfter (CO : Addr) : Sp := fun vs H Q _ => ∃ (p a : Addr) (many : Int) (ts : List Stp) (ns : List Int) (wd : Str), vs = [.ref p, .ref a, .str wd] ∧ OutAt CO H p many ts ∧ (∀ t ∈ ts, OkS many t) ∧ many < 60 ∧ H a = some (.tup (ns.map V.int)) ∧ ns.Nodup ∧ InR many ns ∧ wd ≠ Str.ofString "" ∧
  ∀ H' t, Same H H' → H' t = some (.tup ((aft ts many ns wd).map V.int)) → Q (.ref t) H'
structure TxtAf (K : PySem.W.Frag) (mg : Str → Option Value) (CO fS : Addr) : Prop where
  cl_Outlook : Cls K CO
  n_by_word : NoAttr K CO "by_word"
  m_spread : Meth K CO "spread" fS
theorem oFlds_no {uA wA : Addr} {m : Str} (h : ¬ m = "by_word" ∧ ¬ m = "unseen") : (oFlds uA wA).lookup m = none := by
  unfold oFlds
  rw [lookup_putF, if_neg h.1, lookup_putF, if_neg h.2]; rfl
/-- turns that are counted down: what stands ahead of turn i, up to turn n -/
theorem turns {J : It} {n : Nat} {G : V → Hp → (Hp → Prop) → Prop} {H0 : Hp} {Qd : Hp → Prop} (Pv : Nat → Hp → Prop) (first : Pv 0 H0)
    (more : ∀ i H, i < n → Pv i H → J.go i H ∧ ∀ x H', J.yld i H x H' → G x H' (Pv (i + 1))) (last : ∀ H, Pv n H → J.stop n H ∧ Qd H) :
    ∃ W : Nat → Nat → Hp → Prop, (∃ m, W 0 m H0) ∧ ∀ i m H, W i m H → (J.stop i H ∧ Qd H) ∨ (J.go i H ∧ ∃ Nx : Hp → Prop, (∀ H', Nx H' → ∃ m', m' < m ∧ W (i + 1) m' H') ∧ ∀ x H', J.yld i H x H' → G x H' Nx) :=
  ⟨fun i m H => i + m = n ∧ Pv i H, ⟨n, Nat.zero_add n, first⟩, fun i m H ⟨e, p⟩ => match m, e with
    | 0, e => by
      have z : i = n := e
      rw [z] at p ⊢
      exact Or.inl (last H p)
    | m + 1, e => by
      have t := more i H (by omega) p
      exact Or.inr ⟨t.1, Pv (i + 1), fun H' p' => ⟨m, Nat.lt_succ_self m, by omega, p'⟩, t.2⟩⟩
theorem walk_tup {K : PySem.W.Frag} {a : Addr} {xs : List V} {G : V → Hp → (Hp → Prop) → Prop} {H0 : Hp} {Qd : Hp → Prop} (Pv : Nat → Hp → Prop) (first : Pv 0 H0) (at_ : ∀ i H, i ≤ xs.length → Pv i H → SqT K H a xs)
    (turn : ∀ i x H, xs[i]? = some x → Pv i H → G x H (Pv (i + 1))) (last : ∀ H, Pv xs.length H → Qd H) :
    ∃ W : Nat → Nat → Hp → Prop, (∃ m, W 0 m H0) ∧ ∀ i m H, W i m H → ((Itt K a).stop i H ∧ Qd H) ∨ ((Itt K a).go i H ∧ ∃ Nx : Hp → Prop, (∀ H', Nx H' → ∃ m', m' < m ∧ W (i + 1) m' H') ∧ ∀ x H', (Itt K a).yld i H x H' → G x H' Nx) :=
  turns (J := Itt K a) (n := xs.length) Pv first (fun i H lt p => ⟨⟨xs, _, at_ i H (Nat.le_of_lt lt) p, List.getElem?_eq_getElem lt⟩, fun x H' y => by rw [y.1]; exact turn i x H (y.2 xs (at_ i H (Nat.le_of_lt lt) p)) p⟩)
    fun H p => ⟨⟨xs, at_ _ H (Nat.le_refl _) p, Nat.le_refl _⟩, last H p⟩
theorem walk_list {K : PySem.W.Frag} {a : Addr} {xs : List V} {G : V → Hp → (Hp → Prop) → Prop} {H0 : Hp} {Qd : Hp → Prop} (Pv : Nat → Hp → Prop) (first : Pv 0 H0) (at_ : ∀ i H, i ≤ xs.length → Pv i H → SqL K H a xs)
    (turn : ∀ i x H, xs[i]? = some x → Pv i H → G x H (Pv (i + 1))) (last : ∀ H, Pv xs.length H → Qd H) :
    ∃ W : Nat → Nat → Hp → Prop, (∃ m, W 0 m H0) ∧ ∀ i m H, W i m H → ((Itl K a).stop i H ∧ Qd H) ∨ ((Itl K a).go i H ∧ ∃ Nx : Hp → Prop, (∀ H', Nx H' → ∃ m', m' < m ∧ W (i + 1) m' H') ∧ ∀ x H', (Itl K a).yld i H x H' → G x H' Nx) :=
  turns (J := Itl K a) (n := xs.length) Pv first (fun i H lt p => ⟨⟨xs, _, at_ i H (Nat.le_of_lt lt) p, List.getElem?_eq_getElem lt⟩, fun x H' y => by rw [y.1]; exact turn i x H (y.2 xs (at_ i H (Nat.le_of_lt lt) p)) p⟩)
    fun H p => ⟨⟨xs, at_ _ H (Nat.le_refl _) p, Nat.le_refl _⟩, last H p⟩
structure AfS (many : Int) (ts : List Stp) (ns : List Int) (wd : Str) (H H' : Hp) (D : Addr) (i : Nat) (ms : List Int) : Prop where
  lst : H' D = some (.lst (ms.map V.int))
  few : ms.length ≤ 64 * i
  ins : InR many ms
  same : Same H H'
  all : ∀ t ∈ ts, t.s = wd → t.a ∈ ns.take i → t.g ∈ ms
  only : ∀ x ∈ ms, ∃ t ∈ ts, t.s = wd ∧ t.a ∈ ns.take i ∧ t.g = x
/-- a state's list for a word -/
theorem word_list {H H' : Hp} {many : Int} {ts : List Stp} {d l : Addr} {kvs : List (Key × V)} {ds : List Addr} {st : Int} {wd : Str} (hds : ds[st.toNat]? = some d) (hd : H d = some (.dK kvs)) (ok : ∀ (k : Key) v, valV kvs k = some v → ∃ r, v = .ref r ∧ LI many 64 H r)
    (done : ∀ t ∈ ts, t.s ≠ Str.ofString "" → ∃ d, ds[t.a.toNat]? = some d ∧ Wd H d t.s t.g) (wne : wd ≠ Str.ofString "") (e : Same H H') (nl : H' l = none) {rows : List Addr} (Y : OY H rows ds ts) (pos : ∀ t ∈ ts, 0 ≤ t.a) (st0 : 0 ≤ st) :
    ∃ r gs, (valV kvs (Sum.inr wd : Key)).getD (.ref l) = .ref r ∧ upd H' l (.lst []) r = some (.lst (gs.map V.int)) ∧ InR many gs ∧ gs.length ≤ 64 ∧ (∀ t ∈ ts, t.s = wd → t.a = st → t.g ∈ gs) ∧ (r = l ∨ ∃ o, H r = some o) ∧ ∀ g ∈ gs, ∃ t ∈ ts, t.s = wd ∧ t.a = st ∧ t.g = g := by
  cases hv : valV kvs (Sum.inr wd : Key) with
  | none =>
    refine ⟨l, [], rfl, upd_same, fun x h => absurd h (by simp), Nat.zero_le _, fun t ht ew ea => ?_, .inl rfl, fun g h => absurd h (by simp)⟩
    obtain ⟨d', h1, kvs', r', h2, h3, _⟩ := done t ht (by rw [ew]; exact wne)
    rw [ea, hds] at h1
    cases h1
    rw [hd] at h2
    cases h2
    rw [ew, hv] at h3
    cases h3
  | some v =>
    obtain ⟨r, rfl, gs, hg, ing, gl⟩ := ok _ _ hv
    have e2 : Same H (upd H' l (.lst [])) := e.trans (same_new nl)
    refine ⟨r, gs, rfl, e2 _ _ hg, ing, gl, fun t ht ew ea => ?_, .inr ⟨_, hg⟩, fun g h => by
      obtain ⟨t, tm, ta, te, tg⟩ := Y.wd st.toNat wd r gs g ⟨d, kvs, hds, hd, hv⟩ hg h
      exact ⟨t, tm, te, by have := pos t tm; omega, tg⟩⟩
    obtain ⟨d', h1, kvs', r', h2, h3, gs', h4, h5⟩ := done t ht (by rw [ew]; exact wne)
    rw [ea, hds] at h1
    cases h1
    rw [hd] at h2
    cases h2
    rw [ew, hv] at h3
    cases h3
    rw [hg] at h4
    rw [ints_inj (HO.lst.inj (Option.some.inj h4))]
    exact h5
abbrev sAfter : Stmt := inClass (top 18) 3
abbrev nAf : List Str := ["self", "states", "word", "state", "goal"]
theorem scAfter : FnScope nAf ["self", "states", "word"] (defScope sAfter) := ⟨rfl, rfl, rfl, by decide +kernel, rfl, by decide +kernel, by decide +kernel⟩
set_option maxHeartbeats 1000000 in
theorem ok_after {f CO fS : Addr} {fd fdS : FuncData} (F : Fun K "after" "Outlook.after" sAfter f fd) (T : TxtAf K mg CO fS) (G_spread : FnOk P w K mg base CX0 2 fS fdS ["self", "states"] (spSpread CO)) (b_spread : Binds K fdS ["self", "states"] []) :
    FnOk P w K mg base CX0 3 f fd ["self", "states", "word"] (spAfter CO) := by
  refine F.ok scAfter (fun vs H Q E h => ?_) (fun cdv A outer s H vs Q E hr h => ?_)
  · obtain ⟨p, a, many, ts, ns, wd, rfl, _⟩ := h
    rfl
  · obtain ⟨p, a, many, ts, ns, wd, rfl, O, oks, m2, ha, ndn, inr, wne, k⟩ := h
    have nd := scAfter.nd
    have hu1 := hu_of hr
    have hr_spread : Room 2 _ := hr
    refine ⟨_, (pss_one (ps_ret (pe_meth (pv 0) T.cl_Outlook T.m_spread G_spread hr_spread b_spread .nil pass0 (pa_cons (pe_lc2 (own := [("state", 3), ("goal", 4)]) (vs1 := [4]) (by rfl) nd (pi_tup (pv 1)) (blkOk_by (N := nAf) (sc := defScope sAfter) (by decide +kernel)) (by decide) (fun _ _ _ _ _ => (pg_name (i := 3) nd rfl (Or.inl rfl))) (fun _ _ _ _ _ => pts_nil) (fun _ _ _ _ _ => pi_listK (K := K) rfl (pe_dget2 hu1 (pe_ix (ix_listK (K := K) rfl) (pe_fldK (K := K) rfl (pv 0) rfl) (pv 3) (fun _ _ => rfl)) (pv 2) (pe_lst pa_nil) ⟨by rfl, by rfl, by rfl, by rfl⟩)) (fun _ _ _ _ _ => (pg_name (i := 4) nd rfl (Or.inl rfl))) (fun _ _ _ _ _ => pts_nil) (fun _ _ _ _ _ => (pv 4))) pa_nil)))), ?_⟩
    have O0 := O
    obtain ⟨dx, uA, wA, rows, ds, hp, hU, hW, lenU, lenW, liU, diW, done, Y⟩ := O0
    have fewn := few_ints ndn inr
    refine ⟨_, rfl, p, dx, _, rfl, hp, oFlds_no (by decide +kernel), _, rfl, a, rfl, ⟨_, .inl (.inl ha)⟩, fun D hD => ?_⟩
    refine walk_tup (K := K) (a := a) (xs := ns.map V.int) (fun i H' => ∃ ms, AfS many ts ns wd H H' D i ms) ⟨[], upd_same, Nat.zero_le _, fun x h => absurd h (by simp), same_new hD, fun t _ _ h => absurd h (by simp), fun x h => absurd h (by simp)⟩ (fun i H' _ ⟨ms, A1⟩ => .inl (.inl (A1.same _ _ ha))) ?_ ?_
    · rintro i x H1 hx ⟨ms, A1⟩
      obtain ⟨st, hst, rfl⟩ : ∃ g, ns[i]? = some g ∧ x = V.int g := by
        rw [List.getElem?_map] at hx
        cases e : ns[i]? with
        | none => rw [e] at hx; cases hx
        | some g => rw [e] at hx; exact ⟨g, rfl, (Option.some.inj hx).symm⟩
      have ii : i < ns.length := (List.getElem?_eq_some_iff.mp hst).1
      have hst2 := inr st (List.mem_of_getElem? hst)
      obtain ⟨d, hr1, hr2⟩ := ref_at (rows := ds) hst2.1 (by have := hst2.2; omega)
      obtain ⟨kvs, hd, okd⟩ := diW d (List.mem_of_getElem? hr1)
      refine ⟨rfl, ?_⟩
      refine ⟨_, rfl, p, CO, dx, _, _, rfl, A1.same _ _ hp, T.cl_Outlook, T.n_by_word, lk_word, _, rfl, wA, _, _, _, rfl, rfl, SqL.of (A1.same _ _ hW), hr2, d, rfl, .inl ⟨kvs, .inl (A1.same _ _ hd)⟩, _, rfl, Nat.zero_le _, fun l nl => ?_⟩
      obtain ⟨r, gs, er, hr3, ings, lgs, cov, own, back⟩ := word_list hr1 hd okd (fun t ht => (done t ht).2) wne A1.same nl Y.toOY (fun t tm => (oks t tm).1) hst2.1
      have nlD : l ≠ D := fun z => by rw [z, A1.lst] at nl; cases nl
      have nrD : r ≠ D := fun z => by
        rcases own with h | ⟨o, h⟩
        · exact nlD (by rw [← h, z])
        · rw [z, hD] at h; cases h
      refine ⟨_, DGet.k (k := (Sum.inr wd : Key)) (e := by rw [upd_ne (ne_of_none (A1.same _ _ hd) nl)]; exact A1.same _ _ hd), r, er, ⟨_, SqL.of hr3⟩, ?_⟩
      refine walk_list (K := K) (a := r) (xs := gs.map V.int) (fun j H' => H' D = some (.lst ((ms ++ gs.take j).map V.int)) ∧ H' r = some (.lst (gs.map V.int)) ∧ Same H H') ⟨?_, hr3, A1.same.trans (same_new nl)⟩ (fun j H' _ ⟨_, h, _⟩ => SqL.of h) ?_ ?_
      · rw [List.take_zero, List.append_nil, upd_ne (Ne.symm nlD)]; exact A1.lst
      · rintro j x H2 hx ⟨h1, h2, h3⟩
        obtain ⟨g, hg, rfl⟩ : ∃ g, gs[j]? = some g ∧ x = V.int g := by
          rw [List.getElem?_map] at hx
          cases e : gs[j]? with
          | none => rw [e] at hx; cases hx
          | some g => rw [e] at hx; exact ⟨g, rfl, (Option.some.inj hx).symm⟩
        refine ⟨rfl, _, rfl, _, h1, ?_, ?_, ?_, ?_⟩
        · have : many.toNat < 60 := by omega
          have l1 := A1.few
          have l2 : (gs.take j).length ≤ gs.length := List.length_take_le' ..
          rw [List.length_map, List.length_append, sizeLine_eq]; omega
        · rw [upd_same, List.take_add_one, hg, ← List.append_assoc, List.map_append (l₁ := ms ++ gs.take j)]; rfl
        · rw [upd_ne nrD]; exact h2
        · exact fun b o z => by rw [upd_ne (ne_of_none z hD)]; exact h3 _ _ z
      · rintro H2 ⟨h1, h2, h3⟩
        rw [List.length_map, List.take_length] at h1
        refine ⟨ms ++ gs, h1, ?_, fun x hx => ?_, h3, fun t ht ew ha => ?_, fun x hx => ?_⟩
        · rw [List.length_append]; have := A1.few; omega
        · rcases List.mem_append.mp hx with hx | hx
          · exact A1.ins x hx
          · exact ings x hx
        · rw [List.take_add_one, hst] at ha
          rcases List.mem_append.mp ha with ha | ha
          · exact List.mem_append_left _ (A1.all t ht ew ha)
          · exact List.mem_append_right _ (cov t ht ew (List.mem_singleton.mp (show t.a ∈ [st] from ha)))
        · rw [List.take_add_one, hst]
          rcases List.mem_append.mp hx with hx | hx
          · obtain ⟨t, tm, te, ta, tg⟩ := A1.only x hx
            exact ⟨t, tm, te, List.mem_append_left _ ta, tg⟩
          · obtain ⟨t, tm, te, ta, tg⟩ := back x hx
            exact ⟨t, tm, te, List.mem_append_right _ (show t.a ∈ [st] from List.mem_singleton.mpr ta), tg⟩
    · rintro H1 ⟨ms, A1⟩
      have l1 := A1.few
      rw [List.length_map] at l1
      have cov := A1.all
      rw [List.length_map, List.take_length] at cov
      have only := A1.only
      rw [List.length_map, List.take_length] at only
      refine ⟨p, D, many, ts, ms, rfl, O.same A1.same, oks, m2, .inl A1.lst, by omega, A1.ins, fun H2 t e2 ht => ?_⟩
      refine k H2 t (A1.same.trans e2) ?_
      rw [ht, spr_mem (many := many) (ts := ts) (ns := ms) (ms := goals ts ns wd) fun x => ⟨fun m => mem_goals.mpr (only x m), fun m => ?_⟩]
      · rfl
      · obtain ⟨t', tm, te, ta, tg⟩ := mem_goals.mp m
        rw [← tg]
        exact cov t' tm te ta
end
end K1
end
section
/-! Outlooks of machines. -/
namespace K1
open PySem L2
open MX (Rise Up)
section
variable {P : Program} {w : World} {K : PySem.W.Frag} {mg : Str → Option Value} {base : Heap}
def isOpen (ks : List Str) (s : Stp) : Bool := decide (s.k = Str.ofString "") || decide (s.k ∈ ks)
def spOpen (C : Addr) : Sp := fun vs H Q _ => ∃ (p t : Addr) (many : Int) (sts : List Stp) (ks : List Str), vs = [.ref p, .ref t] ∧ MachAt C H p many sts ∧ (∀ s ∈ sts, OkS many s) ∧ sts.length < 64 ∧ H t = some (.tup (ks.map V.str)) ∧
  ∀ H' D ys, Same H H' → H D = none → H' D = some (.lst ys) → Row H' ys (sts.filter (isOpen ks)) → Q (.ref D) H'
structure TxtOp (K : PySem.W.Frag) (mg : Str → Option Value) (C : Addr) : Prop where
  cl : Cls K C
  n_steps : NoAttr K C "steps"
abbrev sOpen : Stmt := top 19
abbrev nOp : List Str := ["machine", "free", "step"]
theorem scOpen : FnScope nOp ["machine", "free"] (defScope sOpen) := ⟨rfl, rfl, rfl, by decide +kernel, rfl, by decide +kernel, by decide +kernel⟩
theorem ok_open {f C : Addr} {fd : FuncData} (F : Fun K "open_steps" "open_steps" sOpen f fd) (T : TxtOp K mg C) : FnOk P w K mg base CX0 1 f fd ["machine", "free"] (spOpen C) := by
  refine F.ok scOpen (fun vs H Q E h => ?_) (fun cdv A outer s H vs Q E hr h => ?_)
  · obtain ⟨p, t, many, sts, ks, rfl, _⟩ := h
    rfl
  · obtain ⟨p, t, many, sts, ks, rfl, M, oks, few, ht, k⟩ := h
    have nd := scOpen.nd
    refine ⟨_, (pss_one (ps_ret (pe_lc (own := [("step", 2)]) (by rfl) nd (pi_tup (pe_fld (pv 0) rfl)) (blkOk_by (N := nOp) (sc := defScope sOpen) (by decide +kernel)) (fun _ _ _ _ _ => (pg_name (i := 2) nd rfl (Or.inl rfl))) (fun _ _ _ _ _ => pts_one (PW.pt (pw_or (pt_not (pt_tru (K := K) rfl (pe_ix (ix_tupK (K := K) rfl) (pv 2) pe_int (fun _ _ => rfl)) (by intro _; rfl))) (pw_or1 (pt_cmpR (op_in_seqK (K := K) rfl) (pe_ix (ix_tupK (K := K) rfl) (pv 2) pe_int (fun _ _ => rfl)) (pv 1) rfl))))) (fun _ _ _ _ _ => (pv 2))))), ?_⟩
    have M0 := M
    obtain ⟨dx, sA, kA, wA, bA, dA, hp, B⟩ := M0
    obtain ⟨vs, hA, rA⟩ := B.stp
    have lv : vs.length = sts.length := rA.length
    refine ⟨_, rfl, p, C, dx, _, _, rfl, hp, T.cl, T.n_steps, lk_steps, sA, rfl, ⟨_, SqT.of hA⟩, fun D hD => lc_tup (K := K) (a := sA) (xs := vs)
      (fun i H' => ∃ ys, H' D = some (.lst ys) ∧ ys.length ≤ i ∧ Row H' ys ((sts.take i).filter (isOpen ks)) ∧ Same H H') ⟨[], upd_same, Nat.le_refl _, .nil, same_new hD⟩ (fun i H' _ ⟨_, _, _, _, e⟩ => SqT.of (e _ _ hA)) ?_ ?_⟩
    · rintro i x H1 hx ⟨ys, h1, h2, h3, e1⟩
      obtain ⟨s, hs, q, rfl, hq⟩ := rA.get hx
      have lt : i < vs.length := (List.getElem?_eq_some_iff.mp hx).1
      have hq1 := e1 _ _ hq
      have ft := filter_take hs (isOpen ks)
      have len := wordE_len (oks s (List.mem_of_getElem? hs)).2.2.2.2.1
      have put : isOpen ks s = true → ∃ acc, H1 D = some (.lst acc) ∧ acc.length < sizeLine ∧ ∃ ys, upd H1 D (.lst (acc ++ [V.ref q])) D = some (.lst ys) ∧ ys.length ≤ i + 1 ∧
          Row (upd H1 D (.lst (acc ++ [V.ref q]))) ys ((sts.take (i + 1)).filter (isOpen ks)) ∧ Same H (upd H1 D (.lst (acc ++ [V.ref q]))) := fun c => by
        have tk : ∀ b ts, H1 b = some (.tup ts) → upd H1 D (.lst (ys ++ [V.ref q])) b = some (.tup ts) := fun b ts z => by
          rw [upd_ne (ne_of z h1 (by intro y; cases y))]; exact z
        refine ⟨ys, h1, by rw [sizeLine_eq]; omega, ys ++ [.ref q], upd_same, by rw [List.length_append]; show _ + 1 ≤ _; omega, ?_, fun b o z => by rw [upd_ne (ne_of_none z hD)]; exact e1 _ _ z⟩
        rw [ft, if_pos c]
        exact paired_app (h3.keep tk) (.cons ⟨q, rfl, tk _ _ hq1⟩ .nil)
      refine ⟨rfl, _, rfl, q, _, _, _, rfl, rfl, SqT.of hq1, at_1 s, _, ⟨len, rfl⟩, ?_⟩
      rw [str_zero]
      rcases Classical.em (s.k = Str.ofString "") with c | c
      · rw [decide_eq_true c]
        exact iteT (iteT ⟨_, rfl, put (by unfold isOpen; rw [decide_eq_true c]; rfl)⟩)
      · rw [decide_eq_false c]
        refine iteF ⟨_, rfl, q, _, _, _, rfl, rfl, SqT.of hq1, at_1 s, _, rfl, t, _, rfl, .inr (SqT.of (e1 _ _ ht)), rfl, flat_strs ks, _, rfl, ?_⟩
        rw [inV_str]
        rcases Classical.em (s.k ∈ ks) with d | d
        · rw [decide_eq_true d]
          exact iteT ⟨_, rfl, put (by unfold isOpen; rw [decide_eq_false c, decide_eq_true d]; rfl)⟩
        · rw [decide_eq_false d]
          refine iteF ⟨ys, h1, by omega, ?_, e1⟩
          rw [ft, if_neg (by unfold isOpen; rw [decide_eq_false c, decide_eq_false d]; exact Bool.false_ne_true), List.append_nil]
          exact h3
    · rintro H1 ⟨ys, h1, h2, h3, e1⟩
      rw [lv, List.take_length] at h3
      exact k H1 D ys e1 hD h1 h3
def spOut (C CO : Addr) : Sp := fun vs H Q _ => ∃ (p t : Addr) (many : Int) (sts : List Stp) (ks : List Str), vs = [.ref p, .ref t] ∧ MachAt C H p many sts ∧ (∀ s ∈ sts, OkS many s) ∧ 1 ≤ many ∧ many < 60 ∧ sts.length < 64 ∧ H t = some (.tup (ks.map V.str)) ∧
  ∀ H' r, Same H H' → OutAt CO H' r many (sts.filter (isOpen ks)) → Q (.ref r) H'
structure TxtOf (K : PySem.W.Frag) (mg : Str → Option Value) (C CO fL fO : Addr) : Prop where
  len : mg "len" = none
  h_len_Machine : PySem.W.findIn K (.ref C) "__len__" = some (some (.ref fL))
  f_len_Machine : PySem.W.isFn K (.ref fL) = true
  g_open_steps : mg "open_steps" = some (.ref fO)
  k_open_steps : PySem.W.keepIn K (.ref fO) = true
  c_Outlook : mg "Outlook" = some (.ref CO)
abbrev sOut : Stmt := top 20
abbrev nOut : List Str := ["machine", "free", "state", "_", "seen", "goal"]
theorem scOut : FnScope nOut ["machine", "free"] (defScope sOut) := ⟨rfl, rfl, rfl, by decide +kernel, rfl, by decide +kernel, by decide +kernel⟩
set_option maxHeartbeats 1000000 in
theorem ok_out {f C CO fI fL fO : Addr} {fd fdI fdL fdO : FuncData} (F : Fun K "outlook_of" "outlook_of" sOut f fd) (T : TxtOf K mg C CO fL fO) (M_Outlook : Mk K CO fI) (G_Outlook : FnOk P w K mg base CX0 1 fI fdI ["self", "many", "steps"] (spOInit CO)) (b_Outlook : Binds K fdI ["self", "many", "steps"] [])
    (G_len_Machine : FnOk P w K mg base CX0 1 fL fdL ["self"] (spMLen C)) (b_len_Machine : Binds K fdL ["self"] []) (G_open_steps : FnOk P w K mg base CX0 1 fO fdO ["machine", "free"] (spOpen C)) (b_open_steps : Binds K fdO ["machine", "free"] []) :
    FnOk P w K mg base CX0 3 f fd ["machine", "free"] (spOut C CO) := by
  refine F.ok scOut (fun vs H Q E h => ?_) (fun cdv A outer s H vs Q E hr h => ?_)
  · obtain ⟨p, t, many, sts, ks, rfl, _⟩ := h
    rfl
  · obtain ⟨p, t, many, sts, ks, rfl, M, oks, m1, m2, few, ht, k⟩ := h
    have nd := scOut.nd
    have hr_len_Machine : Room 2 _ := hr
    have hr_open_steps : Room 1 _ := hr.mono (by decide)
    have hr_Outlook : Room 2 _ := hr
    refine ⟨_, (pss_one (ps_ret (pe_make M_Outlook G_Outlook hr_Outlook (by rfl) T.c_Outlook b_Outlook .nil pass0 (pa_cons (pe_callB (call_lenOwn T.h_len_Machine T.f_len_Machine G_len_Machine b_len_Machine hr_len_Machine pass0) (by rfl) T.len PySem.boot_len (pa_cons (pv 0) pa_nil)) (pa_cons (pe_lc (own := [("state", 2), ("_", 3), ("seen", 4), ("goal", 5)]) (by rfl) nd (pi_list (pe_call G_open_steps hr_open_steps (by rfl) T.g_open_steps T.k_open_steps b_open_steps .nil pass0 (pa_cons (pv 0) (pa_cons (pv 1) pa_nil)))) (blkOk_by (N := nOut) (sc := defScope sOut) (by decide +kernel)) (fun _ _ _ _ _ => (pg_tupK (K := K) (n := 4) rfl rfl (pgs_cons (pg_name (i := 2) nd rfl (Or.inl rfl)) (pgs_cons (pg_name (i := 3) nd rfl (Or.inl rfl)) (pgs_cons (pg_name (i := 4) nd rfl (Or.inl rfl)) (pgs_cons (pg_name (i := 5) nd rfl (Or.inl rfl)) pgs_nil)))))) (fun _ _ _ _ _ => pts_nil) (fun _ _ _ _ _ => (pe_tup (pa_cons (pv 2) (pa_cons (pv 4) (pa_cons (pv 5) pa_nil)))))) pa_nil))))), ?_⟩
    have M0 := M
    obtain ⟨dx, sA, kA, wA, bA, dA, hp, B⟩ := M0
    refine ⟨_, rfl, p, dx, _, rfl, hp, p, many, sts, rfl, M, many, rfl, by omega, by omega, _, rfl, _, rfl, p, t, many, sts, ks, rfl, M, oks, few, ht, fun H1 l vs e1 _ hl row => ?_⟩
    have lvs : vs.length = (sts.filter (isOpen ks)).length := row.length
    have lf : (sts.filter (isOpen ks)).length ≤ sts.length := List.length_filter_le ..
    have okf : ∀ s ∈ sts.filter (isOpen ks), OkS many s := fun s hs => oks s (List.mem_filter.mp hs).1
    generalize sts.filter (isOpen ks) = rs at row k lvs lf okf
    refine ⟨l, rfl, ⟨_, SqL.of hl⟩, fun D hD => lc_list (K := K) (a := l) (xs := vs) (fun i H' => ∃ ys, H' D = some (.lst ys) ∧ ys.length = i ∧ Tri H' ys (rs.take i) ∧ Same H1 H') ⟨[], upd_same, rfl, .nil, same_new hD⟩ (fun i H' _ ⟨_, _, _, _, e⟩ => SqL.of (e _ _ hl)) ?_ ?_⟩
    · rintro i x H2 hx ⟨ys, h1, h2, h3, e2⟩
      obtain ⟨s, hs, q, rfl, hq⟩ := row.get hx
      have lt : i < vs.length := (List.getElem?_eq_some_iff.mp hx).1
      refine ⟨q, _, rfl, SqT.of (e2 _ _ hq), rfl, ?_⟩
      refine ⟨_, _, rfl, _, _, rfl, _, _, rfl, _, _, rfl, rfl, ?_⟩
      refine ⟨rfl, ?_⟩
      refine ⟨_, rfl, _, rfl, _, rfl, by show 3 ≤ sizeLine; decide, fun t ht => ⟨ys, ?_, by rw [sizeLine_eq]; omega, ys ++ [.ref t], upd_same, by rw [List.length_append, h2]; rfl, ?_, fun b o z => ?_⟩⟩
      · rw [upd_ne (ne_of_none h1 ht)]; exact h1
      · have ntD : t ≠ D := fun z => by rw [z, h1] at ht; cases ht
        have tk : ∀ b ts, H2 b = some (.tup ts) → (upd (upd H2 t (.tup [.int s.a, .str s.s, .int s.g])) D (.lst (ys ++ [.ref t]))) b = some (.tup ts) := fun b ts z => by
          rw [upd_ne (ne_of z h1 (by intro y; cases y)), upd_ne (ne_of_none z ht)]; exact z
        rw [List.take_add_one, hs]
        exact paired_app (h3.keep tk) (.cons ⟨t, rfl, by rw [upd_ne ntD, upd_same]; rfl⟩ .nil)
      · rw [upd_ne (ne_of_none z hD), upd_ne (ne_of_none (e2 _ _ z) ht)]
        exact e2 _ _ z
    · rintro H2 ⟨ys, h1, h2, h3, e2⟩
      rw [lvs, List.take_length] at h3
      intro x dx' nx ndx nex
      have e3 : Same H2 (upd (upd H2 dx' (.own x)) x (.ins CO dx' [])) := fun b o z => by
        rw [upd_ne (ne_of_none z nx), upd_ne (ne_of_none z ndx)]; exact z
      refine ⟨x, dx', D, many, ys, rs, rfl, upd_same, e3 _ _ h1, h3.keep fun p ts z => e3 _ _ z, okf, by omega, by omega, by omega, fun H4 O off => ⟨rfl, ?_⟩⟩
      exact k H4 x (fun b o z => off _ _ (e3 _ _ (e2 _ _ (e1 _ _ z))) fun e => by rw [e] at z; have := e2 _ _ (e1 _ _ z); rw [nx] at this; cases this) O
end
end K1
end
section
/-! Kinds that ascend. -/
namespace K1
open PySem L2
open MX (Rise Up)
theorem kl_str (a b : Str) : MX.kl (.inr a) (.inr b) = decide (a.cps.toList < b.cps.toList) := by
  show PyProof.Rows.lexLt PyProof.Rows.itemOrd [Sum.inr a.cps.toList] [Sum.inr b.cps.toList] = _
  rw [PySem.W.lex_one]; rfl
section
variable {P : Program} {w : World} {K : PySem.W.Frag} {mg : Str → Option Value} {base : Heap}
/-- a block's turns over zip of two tuples, the second not the longer -/
theorem walk_zipT {K : PySem.W.Frag} {a b : Addr} {xs ys : List V} {G : V → Hp → (Hp → Prop) → Prop} {H0 : Hp} {Qd : Hp → Prop} (hl : ys.length ≤ xs.length) (Pv : Nat → Hp → Prop) (h0 : Pv 0 H0) (hq : ∀ i H, Pv i H → SqT K H a xs ∧ SqT K H b ys)
    (hs : ∀ i x y T H, xs[i]? = some x → ys[i]? = some y → Pv i H → H T = none → G (.ref T) (upd H T (.tup [x, y])) (Pv (i + 1))) (hd : ∀ H, Pv ys.length H → Qd H) :
    ∃ W : Nat → Nat → Hp → Prop, (∃ m, W 0 m H0) ∧ ∀ i m H, W i m H →
      ((RZ.ItzT K a b).stop i H ∧ Qd H) ∨ ((RZ.ItzT K a b).go i H ∧ ∃ Nx : Hp → Prop, (∀ H', Nx H' → ∃ m', m' < m ∧ W (i + 1) m' H') ∧ ∀ x H', (RZ.ItzT K a b).yld i H x H' → G x H' Nx) := by
  refine turns (J := RZ.ItzT K a b) (n := ys.length) Pv h0 (fun i H lt p => ?_) fun H p => ⟨⟨xs, ys, (hq _ H p).1, (hq _ H p).2, Or.inr (Nat.le_refl _)⟩, hd H p⟩
  have lx : i < xs.length := Nat.lt_of_lt_of_le lt hl
  refine ⟨⟨xs, ys, _, _, (hq i H p).1, (hq i H p).2, List.getElem?_eq_getElem lx, List.getElem?_eq_getElem lt⟩, fun v H' y => ?_⟩
  obtain ⟨t, u, u2, e1, new, e2, at1, at2⟩ := y
  rw [e1, e2]
  exact hs i u u2 t H (at1 xs (hq i H p).1) (at2 ys (hq i H p).2) p new
def Asc (ks : List Str) : Prop := Up (ks.map Sum.inr)
theorem Asc.at {ks : List Str} (h : Asc ks) {i : Nat} {x y : Str} (h1 : ks[i]? = some x) (h2 : ks[i + 1]? = some y) : decide (x.cps.toList < y.cps.toList) = true := by
  rw [← kl_str]
  have z : Up (ks.map Sum.inr) := h
  obtain ⟨l1, e1⟩ := List.getElem?_eq_some_iff.mp h1
  obtain ⟨l2, e2⟩ := List.getElem?_eq_some_iff.mp h2
  have q := List.pairwise_iff_getElem.mp z i (i + 1) (by rw [List.length_map]; exact l1) (by rw [List.length_map]; exact l2) (Nat.lt_succ_self i)
  rw [List.getElem_map, List.getElem_map, e1, e2] at q
  exact q
def spAsc : Sp := fun vs H Q _ => ∃ (t : Addr) (ks : List Str), vs = [.ref t] ∧ H t = some (.tup (ks.map V.str)) ∧ ks.length < 64 ∧ Asc ks ∧ ∀ H', Same H H' → Q (.bl true) H'
structure TxtAsc (mg : Str → Option Value) : Prop where
  all : mg "all" = none
  zip : mg "zip" = none
abbrev sAsc : Stmt := top 10
abbrev nAsc : List Str := ["rows", "low", "high"]
theorem scAsc : FnScope nAsc ["rows"] (defScope sAsc) := ⟨rfl, rfl, rfl, by decide +kernel, rfl, by decide +kernel, by decide +kernel⟩
theorem asc_loop {K : PySem.W.Frag} {t b : Addr} {ks : List Str} {ys : List V} {H1 : Hp} {v0 : V} {R : VK} (few : ks.length < 64) (asc : Asc ks) (ht : H1 t = some (.tup (ks.map V.str))) (hb : H1 b = some (.tup ys)) (hl : ys.length ≤ ks.length)
    (hy : ∀ i y, ys[i]? = some y → ∃ z, y = .str z ∧ ks[i + 1]? = some z) (k : ∀ H' D (bs : List Bool), Same H1 H' → H' D = some (.lst (bs.map V.bl)) → bs.all id = true → R (.ref D) H') :
    tLc (fun _ H R => R (RZ.ItzT K t b) H) (gTup K 2 (gCons (gName 1) (gCons (gName 2) gNil))) tYes (tOp (fun x y H Q => ∃ i j, x = V.str i ∧ y = V.str j ∧ Q (V.bl (decide (i.cps.toList < j.cps.toList))) H) (tVar 1) (tVar 2)) [1, 2] [some v0, none, none] H1 R := by
  intro D hD
  refine walk_zipT (K := K) (a := t) (b := b) (xs := ks.map V.str) (ys := ys) (by rw [List.length_map]; exact hl) (fun i H' => H' D = some (.lst ((List.replicate i true).map V.bl)) ∧ Same H1 H') ⟨upd_same, same_new hD⟩ (fun i H' ⟨_, e⟩ => ⟨.inl (.inl (e _ _ ht)), .inl (.inl (e _ _ hb))⟩) ?_ ?_
  · rintro i x y T H2 hx hyi ⟨h1, e⟩ hT
    obtain ⟨z, rfl, hz⟩ := hy i y hyi
    obtain ⟨q, hq, rfl⟩ : ∃ q, ks[i]? = some q ∧ x = V.str q := by
      rw [List.getElem?_map] at hx
      cases e : ks[i]? with
      | none => rw [e] at hx; cases hx
      | some g => rw [e] at hx; exact ⟨g, rfl, (Option.some.inj hx).symm⟩
    have lt : i < ys.length := (List.getElem?_eq_some_iff.mp hyi).1
    refine ⟨T, _, rfl, SqT.of upd_same, rfl, ?_⟩
    refine ⟨_, _, rfl, _, _, rfl, rfl, ?_⟩
    refine ⟨rfl, _, rfl, _, rfl, q, z, rfl, rfl, ?_⟩
    have eT : Same H2 (upd H2 T (.tup [V.str q, V.str z])) := same_new hT
    refine ⟨_, eT _ _ h1, by rw [List.length_map, List.length_replicate, sizeLine_eq]; omega, ?_, fun b o w => ?_⟩
    · rw [upd_same, asc.at hq hz, List.replicate_succ', List.map_append]; rfl
    · rw [upd_ne (ne_of_none w hD)]; exact eT _ _ (e _ _ w)
  · rintro H2 ⟨h1, e⟩
    exact k H2 D _ e h1 (List.all_eq_true.mpr fun x hx => by rw [(List.mem_replicate.mp hx).2]; rfl)
set_option maxHeartbeats 1000000 in
theorem ok_asc {f : Addr} {fd : FuncData} (F : Fun K "is_ascending" "is_ascending" sAsc f fd) (T : TxtAsc mg) : FnOk P w K mg base CX0 1 f fd ["rows"] spAsc := by
  refine F.ok scAsc (fun vs H Q E h => ?_) (fun cdv A outer s H vs Q E hr h => ?_)
  · obtain ⟨t, ks, rfl, _⟩ := h
    rfl
  · obtain ⟨t, ks, rfl, ht, few, asc, k⟩ := h
    have nd := scAsc.nd
    refine ⟨_, (pss_one (ps_ret (pe_callB (cr_all rfl) (by rfl) T.all (by decide +kernel) (pa_cons (pe_lc (own := [("low", 1), ("high", 2)]) (by rfl) nd (RZ.pi_zipA (by rfl) T.zip (pa_cons (pv 0) (pa_cons (pe_slice sl_tupA (pv 0) (po_some pe_int) po_none) pa_nil))) (blkOk_by (N := nAsc) (sc := defScope sAsc) (by decide +kernel)) (fun _ _ _ _ _ => (pg_tupK (K := K) (n := 2) rfl rfl (pgs_cons (pg_name (i := 1) nd rfl (Or.inl rfl)) (pgs_cons (pg_name (i := 2) nd rfl (Or.inl rfl)) pgs_nil)))) (fun _ _ _ _ _ => pts_nil) (fun _ _ _ _ _ => (pe_cmpR op_lt_str (pv 1) (pv 2) (nomark _)))) pa_nil)))), ?_⟩
    refine ⟨_, rfl, _, rfl, _, rfl, t, _, rfl, .inl (.inl ht), fun c => ?_, fun c b nb => ?_⟩
    · have e0 : ks = [] := by
        have z : min 1 (ks.map V.str).length = 0 := c.1
        rw [List.length_map] at z
        exact List.length_eq_zero_iff.mp (by omega)
      subst e0
      refine ⟨t, t, [], [], rfl, .inr ⟨.inl (.inl ht), .inl (.inl ht), ?_⟩⟩
      exact asc_loop (K := K) (v0 := V.ref t) (R := fun x H1 => rAll K [x] H1 Q) (ks := []) (ys := []) few asc ht ht (Nat.le_refl _) (fun i y h => by cases h) fun H' D bs e hD hb => ⟨D, bs, rfl, SqL.of hD, by rw [hb]; exact k H' e⟩
    · have e1 : Same H (upd H b (.tup (cutV (ks.map V.str) (some 1) none))) := same_new nb
      refine ⟨t, b, _, _, rfl, .inr ⟨.inl (.inl (e1 _ _ ht)), .inl (.inl upd_same), ?_⟩⟩
      refine asc_loop (K := K) (v0 := V.ref t) (R := fun x H1 => rAll K [x] H1 Q) few asc (e1 _ _ ht) upd_same (by rw [← List.length_map (f := V.str)]; exact cutV_length ..) (fun i y h => ?_) fun H' D bs e hD hb => ⟨D, bs, rfl, SqL.of hD, by rw [hb]; exact k H' (e1.trans e)⟩
      have ec : cutV (ks.map V.str) (some 1) none = ((ks.map V.str).drop (min 1 (ks.map V.str).length)).take ((ks.map V.str).length - min 1 (ks.map V.str).length) := rfl
      rw [ec, List.getElem?_take] at h
      split at h
      · rename_i lt
        rw [List.getElem?_drop, Nat.min_eq_left (by omega), Nat.add_comm, List.getElem?_map] at h
        cases z : ks[i + 1]? with
        | none => rw [z] at h; cases h
        | some q => rw [z] at h; exact ⟨q, (Option.some.inj h).symm, rfl⟩
      · cases h
end
end K1
end
section
/-! Kinds are checked; traces. -/
namespace K1
open PySem L2
open MX (Rise Up)
section
variable {P : Program} {w : World} {K : PySem.W.Frag} {mg : Str → Option Value} {base : Heap}
def spFree : Sp := fun vs H Q _ => ∃ (t : Addr) (ks : List Str), vs = [.ref t] ∧ H t = some (.tup (ks.map V.str)) ∧ ks.length < 64 ∧ Asc ks ∧ (∀ x ∈ ks, wordS x = true) ∧ ∀ H', Same H H' → Q .non H'
structure TxtFr (K : PySem.W.Frag) (mg : Str → Option Value) (CS fW fA : Addr) : Prop where
  isinstance : mg "isinstance" = none
  all : mg "all" = none
  tuple : mg "tuple" = none
  g_is_word : mg "is_word" = some (.ref fW)
  k_is_word : PySem.W.keepIn K (.ref fW) = true
  g_is_ascending : mg "is_ascending" = some (.ref fA)
  k_is_ascending : PySem.W.keepIn K (.ref fA) = true
  x_BadKinds : PySem.W.excIn K CS [.type "ValueError", .type "Exception", .type "BaseException", .type "object"] "ValueError.__new__" = true
  c_BadKinds : mg "BadKinds" = some (.ref CS)
  k_BadKinds : PySem.W.keepIn K (.ref CS) = true
  b_BadKinds : PySem.W.subIn K (.ref CS) (.type "BaseException") = some true
  t_BadKinds : PySem.W.typeIn K (.ref CS) = some (.type "type")
abbrev sFree : Stmt := top 14
abbrev nFree : List Str := ["kinds", "kind"]
theorem scFree : FnScope nFree ["kinds"] (defScope sFree) := ⟨rfl, rfl, rfl, by decide +kernel, rfl, by decide +kernel, by decide +kernel⟩
set_option maxHeartbeats 1000000 in
theorem ok_free {f CS fW fA : Addr} {fd fdW fdA : FuncData} (F : Fun K "check_free" "check_free" sFree f fd) (T : TxtFr K mg CS fW fA) (G_is_word : FnOk P w K mg base CX0 1 fW fdW ["value"] (spWord K)) (b_is_word : Binds K fdW ["value"] [])
    (G_is_ascending : FnOk P w K mg base CX0 1 fA fdA ["rows"] spAsc) (b_is_ascending : Binds K fdA ["rows"] []) : FnOk P w K mg base (L2.CX P w) 2 f fd ["kinds"] spFree := by
  refine F.okX scFree (fun vs H Q E h => ?_) (fun cdv A outer s H vs Q E hr h => ?_)
  · obtain ⟨t, ks, rfl, _⟩ := h
    rfl
  · obtain ⟨t, ks, rfl, ht, few, asc, ok, k⟩ := h
    have nd := scFree.nd
    have hr_is_word : Room 1 _ := hr
    have hr_is_ascending : Room 1 _ := hr
    refine ⟨_, (pss_cons (ps_if (PW.pt (pw_or (pt_not (pt_val (pe_callB call_isi (by rfl) T.isinstance (by decide +kernel) (pa_cons (pv 0) (pa_cons (pe_bltn (v := .ty "tuple") (by rfl) T.tuple (by decide +kernel) rfl) pa_nil))))) (pw_or1 (pt_not (pt_val (pe_callB (cr_all rfl) (by rfl) T.all (by decide +kernel) (pa_cons (pe_lc (own := [("kind", 1)]) (by rfl) nd (pi_tup (pv 0)) (blkOk_by (N := nFree) (sc := defScope sFree) (by decide +kernel)) (fun _ _ _ _ _ => (pg_name (i := 1) nd rfl (Or.inl rfl))) (fun _ _ _ _ _ => pts_nil) (fun _ _ _ _ _ => (pe_call G_is_word hr_is_word (by rfl) T.g_is_word T.k_is_word b_is_word .nil pass0 (pa_cons (pv 1) pa_nil)))) pa_nil)))))))
        (pss_one (ps_raise rfl (takes_of rfl rfl rfl rfl) (pmk_own PySem.F.excBase_ValueError T.x_BadKinds T.c_BadKinds T.k_BadKinds (raises_own T.b_BadKinds T.t_BadKinds) (by rfl))))
        pss_nil)
      (pss_one (ps_if (pt_not (pt_val (pe_call G_is_ascending hr_is_ascending (by rfl) T.g_is_ascending T.k_is_ascending b_is_ascending .nil pass0 (pa_cons (pv 0) pa_nil))))
        (pss_one (ps_raise rfl (takes_of rfl rfl rfl rfl) (pmk_own PySem.F.excBase_ValueError T.x_BadKinds T.c_BadKinds T.k_BadKinds (raises_own T.b_BadKinds T.t_BadKinds) (by rfl))))
        pss_nil))), ?_⟩
    have pl : Pl K H (.ref t) "tuple" := .tup ht
    have step2 : ∀ H', Same H H' → (tIfS (tNot (tB (tCall spAsc [] E0 (tCons (tVar 0) tNil)))) (fun x σ H => (fun cls d H' => E cls d H') (Value.ref CS) none H) tNext) { nx := fun x H' => Q V.non H', rt := Q } [some (V.ref t), none] H' := fun H' e =>
      ⟨_, rfl, t, ks, rfl, e _ _ ht, few, asc, fun H2 e2 => ⟨_, rfl, iteF (k H2 (e.trans e2))⟩⟩
    refine ⟨_, rfl, .ref t, .ty "tuple", _, _, _, rfl, .ty "tuple", pl.tyX, pl.kit "tuple" (.inr (.inl rfl)), _, rfl, ?_⟩
    refine iteF ⟨_, rfl, t, rfl, ⟨_, SqT.of ht⟩, fun D hD => lc_tup (K := K) (a := t) (xs := ks.map V.str) (fun i H' => H' D = some (.lst ((List.replicate i true).map V.bl)) ∧ Same H H') ⟨upd_same, same_new hD⟩ (fun i H' _ ⟨_, e⟩ => SqT.of (e _ _ ht)) ?_ ?_⟩
    · rintro i x H1 hx ⟨h1, e⟩
      obtain ⟨q, hq, rfl⟩ : ∃ q, ks[i]? = some q ∧ x = V.str q := by
        rw [List.getElem?_map] at hx
        cases e : ks[i]? with
        | none => rw [e] at hx; cases hx
        | some g => rw [e] at hx; exact ⟨g, rfl, (Option.some.inj hx).symm⟩
      have lt : i < ks.length := (List.getElem?_eq_some_iff.mp hq).1
      have wq := ok q (List.mem_of_getElem? hq)
      have lq : q.length ≤ sizeLine := wordE_len (by show (_ || wordS q) = true; rw [wq, Bool.or_true])
      refine ⟨rfl, _, rfl, .str q, "str", rfl, .str lq, _, h1, by rw [List.length_map, List.length_replicate, sizeLine_eq]; omega, ?_, fun b o z => ?_⟩
      · rw [upd_same, show wordB (.str q) = true from wq, List.replicate_succ', List.map_append]; rfl
      · rw [upd_ne (ne_of_none z hD)]; exact e _ _ z
    · rintro H1 ⟨h1, e⟩
      refine ⟨D, _, rfl, SqL.of h1, _, rfl, ?_⟩
      rw [show (List.replicate (ks.map V.str).length true).all id = true from List.all_eq_true.mpr fun x hx => by rw [(List.mem_replicate.mp hx).2]; rfl]
      exact iteF (step2 H1 e)
end
end K1
end
section
/-! Traces. -/
namespace K1
open PySem L2
open MX (Rise Up)
section
variable {P : Program} {w : World} {K : PySem.W.Frag} {mg : Str → Option Value} {base : Heap}
/-- the states behind words -/
noncomputable def seen (ts : List Stp) (many : Int) (ws : List Str) : List Int := ws.foldl (aft ts many) (spr ts many [0])
theorem seen_snoc {ts : List Stp} {many : Int} (ws : List Str) (x : Str) : seen ts many (ws ++ [x]) = aft ts many (seen ts many ws) x := by
  unfold seen
  rw [List.foldl_append]; rfl
theorem aft_asc {ts : List Stp} {many : Int} {ns : List Int} {x : Str} : (aft ts many ns x).Pairwise (· < ·) := spr_asc
theorem seen_asc {ts : List Stp} {many : Int} (ws : List Str) : (seen ts many ws).Pairwise (· < ·) := by
  rcases List.eq_nil_or_concat ws with e | ⟨us, x, e⟩
  · rw [e]; exact spr_asc
  · rw [e, List.concat_eq_append, seen_snoc]; exact aft_asc
theorem seen_inr {ts : List Stp} {many : Int} (ws : List Str) : InR many (seen ts many ws) := by
  rcases List.eq_nil_or_concat ws with e | ⟨us, x, e⟩
  · rw [e]; exact spr_inr
  · rw [e, List.concat_eq_append, seen_snoc]; exact spr_inr
theorem asc_nodup {ns : List Int} (h : ns.Pairwise (· < ·)) : ns.Nodup := h.imp fun {a b} h e => by rw [e] at h; exact Int.lt_irrefl _ h
theorem seen_take {ts : List Stp} {many : Int} {ws : List Str} {i : Nat} {x : Str} (h : ws[i]? = some x) : seen ts many (ws.take (i + 1)) = aft ts many (seen ts many (ws.take i)) x := by
  rw [List.take_add_one, h]; exact seen_snoc _ _
theorem str_at {ws : List Str} {i : Nat} {x : V} (h : (ws.map V.str)[i]? = some x) : ∃ q, ws[i]? = some q ∧ x = V.str q := by
  rw [List.getElem?_map] at h
  cases e : ws[i]? with
  | none => rw [e] at h; cases h
  | some g => rw [e] at h; exact ⟨g, rfl, (Option.some.inj h).symm⟩
def spIsT (C : Addr) : Sp := fun vs H Q _ => ∃ (p tr fr : Addr) (many : Int) (sts : List Stp) (ws ks : List Str), vs = [.ref p, .ref tr, .ref fr] ∧ MachAt C H p many sts ∧ (∀ s ∈ sts, OkS many s) ∧ 1 ≤ many ∧ many < 60 ∧ sts.length < 64 ∧ H tr = some (.lst (ws.map V.str)) ∧ H fr = some (.tup (ks.map V.str)) ∧ ks.length < 64 ∧ Asc ks ∧ (∀ x ∈ ks, wordS x = true) ∧
  (∀ x ∈ ws, x ≠ Str.ofString "") ∧ ∀ H', Same H H' → Q (.bl (decide (0 < (seen (sts.filter (isOpen ks)) many ws).length))) H'
structure TxtIT (K : PySem.W.Frag) (mg : Str → Option Value) (CO fF fO fS fA : Addr) : Prop where
  len : mg "len" = none
  g_check_free : mg "check_free" = some (.ref fF)
  k_check_free : PySem.W.keepIn K (.ref fF) = true
  g_outlook_of : mg "outlook_of" = some (.ref fO)
  k_outlook_of : PySem.W.keepIn K (.ref fO) = true
  cl_Outlook : Cls K CO
  m_spread : Meth K CO "spread" fS
  m_after : Meth K CO "after" fA
abbrev sIsT : Stmt := top 24
abbrev nIsT : List Str := ["machine", "trace", "free", "outlook", "states", "word"]
theorem scIsT : FnScope nIsT ["machine", "trace", "free"] (defScope sIsT) := ⟨rfl, rfl, rfl, by decide +kernel, rfl, by decide +kernel, by decide +kernel⟩
set_option maxHeartbeats 1000000 in
theorem ok_isT {f C CO fF fO fS fA : Addr} {fd fdF fdO fdS fdA : FuncData} (F : Fun K "is_trace" "is_trace" sIsT f fd) (T : TxtIT K mg CO fF fO fS fA) (G_check_free : FnOk P w K mg base (L2.CX P w) 2 fF fdF ["kinds"] spFree) (b_check_free : Binds K fdF ["kinds"] [])
    (G_outlook_of : FnOk P w K mg base CX0 3 fO fdO ["machine", "free"] (spOut C CO)) (b_outlook_of : Binds K fdO ["machine", "free"] []) (G_spread : FnOk P w K mg base CX0 2 fS fdS ["self", "states"] (spSpread CO)) (b_spread : Binds K fdS ["self", "states"] [])
    (G_after : FnOk P w K mg base CX0 3 fA fdA ["self", "states", "word"] (spAfter CO)) (b_after : Binds K fdA ["self", "states", "word"] []) : FnOk P w K mg base (L2.CX P w) 4 f fd ["machine", "trace", "free"] (spIsT C) := by
  refine F.okX scIsT (fun vs H Q E h => ?_) (fun cdv A outer s H vs Q E hr h => ?_)
  · obtain ⟨p, tr, fr, many, sts, ws, ks, rfl, _⟩ := h
    rfl
  · obtain ⟨p, tr, fr, many, sts, ws, ks, rfl, M, oks, m1, m2, few, htr, hfr, lks, asc, okk, wne, k⟩ := h
    have nd := scIsT.nd
    have hr_check_free : Room 2 _ := hr.mono (by decide)
    have hr_spread : Room 2 _ := hr.mono (by decide)
    have hr_outlook_of : Room 3 _ := hr
    have hr_after : Room 3 _ := hr
    refine ⟨_, (pss_cons (ps_expr (pe_callS G_check_free hr_check_free (by rfl) T.g_check_free T.k_check_free b_check_free (E := fun _ => E) (fun σ => passAt (takes_of rfl rfl rfl rfl) σ) (pa_cons (pv 2) pa_nil)))
      (PSs.nox (pss_cons (ps_set (i := 3) nd rfl (Or.inl rfl) (pe_call G_outlook_of hr_outlook_of (by rfl) T.g_outlook_of T.k_outlook_of b_outlook_of .nil pass0 (pa_cons (pv 0) (pa_cons (pv 2) pa_nil))))
      (pss_cons (ps_set (i := 4) nd rfl (Or.inl rfl) (pe_meth (pv 3) T.cl_Outlook T.m_spread G_spread hr_spread b_spread .nil pass0 (pa_cons (pe_lst (pa_cons pe_int pa_nil)) pa_nil)))
      (pss_cons (ps_for PassesOwn.never rfl (pi_list (pv 1)) (pg_name (i := 5) nd rfl (Or.inl rfl))
        (pss_one (ps_set (i := 4) nd rfl (Or.inl rfl) (pe_meth (pv 3) T.cl_Outlook T.m_after G_after hr_after b_after .nil pass0 (pa_cons (pv 4) (pa_cons (pv 5) pa_nil))))))
      (pss_one (ps_ret (pe_cmpR op_gt (pe_callB call_len_seq (by rfl) T.len PySem.boot_len (pa_cons (pv 4) pa_nil)) pe_int (nomark _))))))))), ?_⟩
    refine into ⟨_, rfl, fr, ks, rfl, hfr, lks, asc, okk, fun H1 e1 => ?_⟩
    refine into ⟨_, rfl, _, rfl, p, fr, many, sts, ks, rfl, M.same e1, oks, m1, m2, few, e1 _ _ hfr, fun H2 o e2 O => ?_⟩
    have okf : ∀ s ∈ sts.filter (isOpen ks), OkS many s := fun s hs => oks s (List.mem_filter.mp hs).1
    generalize sts.filter (isOpen ks) = ts at k O okf
    have O0 := O
    obtain ⟨dx, uA, wA, rows, ds, hp, _⟩ := O0
    have e12 := e1.trans e2
    refine into ⟨_, rfl, o, dx, _, rfl, hp, oFlds_no (by decide +kernel), by show 1 ≤ sizeLine; decide, fun l nl => ?_⟩
    have el : Same H2 (upd H2 l (.lst [V.int 0])) := same_new nl
    refine ⟨o, l, many, ts, [0], rfl, O.same el, okf, m2, .inl upd_same, by decide, fun x hx => by rw [List.mem_singleton.mp hx]; exact ⟨Int.le_refl 0, by omega⟩, fun H3 t e3 ht => ?_⟩
    have e13 := e12.trans (el.trans e3)
    refine into ⟨_, rfl, tr, rfl, ⟨_, SqL.of (e13 _ _ htr)⟩, for_list (K := K) (a := tr) (xs := ws.map V.str)
      (fun i σ H' => ∃ (t : Addr) (v5 : Option V), σ = [some (.ref p), some (.ref tr), some (.ref fr), some (.ref o), some (.ref t), v5] ∧ Same H3 H' ∧ H' t = some (.tup ((seen ts many (ws.take i)).map V.int)))
      ⟨t, none, rfl, Same.refl _, ht⟩ (fun i σ H' _ ⟨_, _, _, e, _⟩ => SqL.of (e _ _ (e13 _ _ htr))) ?_ ?_⟩
    · rintro i x σ H4 hx ⟨t4, v5, rfl, e4, ht4⟩
      obtain ⟨q, hq, rfl⟩ := str_at hx
      have eo := el.trans (e3.trans e4)
      refine ⟨_, rfl, o, dx, _, rfl, eo _ _ hp, oFlds_no (by decide +kernel), _, rfl, _, rfl, o, t4, many, ts, _, q, rfl, O.same eo, okf, m2, ht4, asc_nodup (seen_asc _), seen_inr _, wne q (List.mem_of_getElem? hq), fun H5 t5 e5 ht5 => ?_⟩
      exact ⟨t5, _, rfl, e4.trans e5, by rw [seen_take hq]; exact ht5⟩
    · rintro σ H4 ⟨t4, v5, rfl, e4, ht4⟩
      rw [List.length_map, List.take_length] at ht4
      refine ⟨_, rfl, t4, _, rfl, .inr (SqT.of ht4), _, _, rfl, rfl, ?_⟩
      rw [List.length_map]
      have e : decide ((0 : Int) < ((seen ts many ws).length : Int)) = decide (0 < (seen ts many ws).length) := by
        rcases Nat.lt_or_ge 0 (seen ts many ws).length with c | c
        · rw [decide_eq_true c, decide_eq_true (show (0 : Int) < ((seen ts many ws).length : Int) by omega)]
        · rw [decide_eq_false (show ¬ 0 < (seen ts many ws).length by omega), decide_eq_false (show ¬ (0 : Int) < ((seen ts many ws).length : Int) by omega)]
      show Q (V.bl (decide ((0 : Int) < ((seen ts many ws).length : Int)))) H4
      rw [e]
      exact k H4 (e13.trans e4)
end
end K1
end
section
/-! {e for .. in .. if .. for .. in .. if ..} : a set, by two clauses. -/
namespace MX
open PySem PySem.Spec PyProof.Rows L2
section
variable {X : Cx}
/-- one turn of a block's loop; behind it slots of the block's own names may be forgotten -/
def OneTurn2 (X B : Cx) (tg : Expr) (ifs : List Expr) (it : Addr) (vs : List Nat) (body : L2.St → Hp → (Hp → Prop) → Prop) (Iv : Nat → Shared → Prop) (stop : Shared → Prop) (n : Nat) (s : Shared) : Prop :=
  wpAny (model X.prog X.w) X.A (pyNext (.ref it)) (fun r s1 => match r with
    | none => stop s1
    | some v => wpAny (model X.prog X.w) X.A (letOwnedTupleGo tg (.ref it) v) (fun _ s2 => wpAny (model X.prog X.w) X.A (assign tg B.env v) (fun _ s3 =>
        wpAny (model X.prog X.w) X.A (forIn ifs true fun c r => if r = true then do let ok ← isTrue c B.env (eval c B.env); pure (ForInStep.yield ok) else pure (ForInStep.yield r)) (fun b s4 =>
          ∃ pl σ H Nx, L2.Inv B pl σ H s4 ∧ (if b = true then body σ H Nx else Nx H) ∧ ∀ s' H' (σ' : L2.St), σ'.length = σ.length → (∀ (j : Nat) (v : V), (wipe σ vs)[j]? = some (some v) → σ'[j]? = some (some v)) → L2.Inv B pl σ' H' s' → Nx H' → ∃ m, m < n ∧ Iv m s') nobody s3) nobody s2) nobody s1) nobody s
theorem gather2 {e tg iter : Expr} {ifs : List Expr} {rest : List Comprehension} {scope : Scope} {own : List (PySem.Str × Nat)} {pos' : Pos} {mk : Sem Value} {o0 : Obj} {new : Addr → HO} {body : Addr → L2.St → Hp → (Hp → Prop) → Prop} {wi : TI} {g : TG} {tt : TT} {use : Option (Value → Sem Unit)}
    {Qf : Value → Shared → Prop} {pins : List (Addr × Obj)} {s : Shared} {σ : L2.St} {H : Hp} {Q : VK} (hc : X.calm = true) (hN : X.N.Nodup) (I : L2.Inv X pins σ H s) (hi : PI X tg iter wi) (ok : BlkOk X.N X.env.scope scope own) (clauses : clausesOf e = ⟨tg, iter, ifs, 0⟩ :: rest)
    (hmk : ∀ (s : Shared) (Q : Value → Shared → Prop), Q (.ref s.heap.objs.size) { s with heap := s.heap.push o0 } → wpAny (model X.prog X.w) X.A mk Q X.xe s)
    (hnew : ∀ (s : Shared) (H : Hp), L2.Inv X pins σ H s → ObjOk X.prog X.w (upd H s.heap.objs.size (new s.heap.objs.size)) (s.heap.push o0) s.heap.objs.size (new s.heap.objs.size))
    (hg : ∀ (s : Shared) (H : Hp) (C : Addr) (cl : List (PySem.Str × Addr)) (fp : List Addr), PG (X.blk s H scope (compEnvC scope cl C X.env) fp) tg g) (ht : ∀ (s : Shared) (H : Hp) (C : Addr) (cl : List (PySem.Str × Addr)) (fp : List Addr), PTs (X.blk s H scope (compEnvC scope cl C X.env) fp) ifs tt)
    (loops : ∀ (s3 : Shared) (H3 : Hp) (C : Addr) (cl : List (PySem.Str × Addr)) (fp : List Addr) (it D : Addr) (Iv : Nat → Shared → Prop) (R : Result → Shared → Prop),
      (∀ n s5, Iv n s5 → OneTurn2 X (X.blk s3 H3 scope (compEnvC scope cl C X.env) fp) tg ifs it (own.map (·.2)) (body D) Iv (fun s1 => R (.ok .next) s1) n s5) → ∀ n s4, Iv n s4 → codeAny (model X.prog X.w) X.A (.compLoop e 0 (.ref it) (.ref D) (compEnvC scope cl C X.env)) R s4)
    (starts : ∀ (it acc : Value) (ce : Env) (R : Result → Shared → Prop) (s4 : Shared), codeAny (model X.prog X.w) X.A (.compLoop e 0 it acc ce) R s4 →
      wpAny (model X.prog X.w) X.A (pyIter it) (fun it' s' => codeAny (model X.prog X.w) X.A (.compLoop e 0 it' acc ce) R s') (notedBy (model X.prog X.w) X.A ce fun x s' => R (.error x) s') s4 → codeAny (model X.prog X.w) X.A (.compStart e 0 it acc ce) R s4)
    (hs : ∀ x, foldedSetIterable iter X.env x = pure x) (h : tGather new body wi g tt (own.map (·.2)) σ H Q)
    (out : ∀ D C s' m H', L2.Inv X pins σ H' s' → Q (.ref D) H' → s'.heap.Ns C m → FpOk X pins H' C → compPost (model X.prog X.w) X.A X.xe use Qf (.ref D) C (.ok .next) s') :
    wpAny (model X.prog X.w) X.A (comprehension e scope X.env pos' mk false (eval iter X.env) use) Qf X.xe s := by
  have closed : ∀ y ∈ scope.names, y.2 = .free → ∃ c, X.env.cells.lookup y.1 = some c := fun y hy ey =>
    (ok.free y hy ey).elim (fun k => I.ok.has _ (.inl k)) fun k => I.ok.has _ (.inr k)
  refine wpAny_comprehension_free (use := use) clauses hs (closure_ok closed) ok.kind (fun y hy ey => by rw [ok.uniq y hy, ey]) ?_
  refine thn (hi.run pins s σ H _ I h) fun _ _ hx => thn hx fun itv s2 h2 => ?_
  obtain ⟨it, fp, tn, J, H2, rfl, I2, T, st2, f2, q⟩ := h2
  refine hmk s2 _ (newEnv_comp ?_)
  have fresh : H2 s2.heap.objs.size = none := I2.hok.fresh (Nat.le_refl _)
  obtain ⟨W, ⟨m0, w0⟩, turn⟩ := q s2.heap.objs.size fresh
  have I3 : L2.Inv X pins σ (upd H2 s2.heap.objs.size (new s2.heap.objs.size)) { s2 with heap := s2.heap.push o0 } := I2.laid (t' := s2.toks) (fun b o eo => Heap.get?_push_of_some _ eo) (Nat.le_refl _) (hnew s2 H2 I2)
  have up : ∀ b o, s2.heap.get? b = some o → (s2.heap.push o0).get? b = some o := fun b o eo => Heap.get?_push_of_some _ eo
  have f3 : ∀ b ∈ fp, FpOk X pins (upd H2 s2.heap.objs.size (new s2.heap.objs.size)) b ∧ b < (s2.heap.push o0).objs.size := fun b hb => by
    obtain ⟨o, eo, _⟩ := T.obj _ _ st2 b hb
    have lt := Heap.lt_size eo
    refine ⟨⟨?_, (f2 b hb).2⟩, by rw [Heap.size_push]; exact Nat.lt_succ_of_lt lt⟩
    rw [upd_ne (Nat.ne_of_lt lt)]
    exact (f2 b hb).1
  have st3 : tn 0 (s2.heap.push o0) := T.keep _ _ _ st2 fun b _ o eo => up b o eo
  have I4 := block_start I3 ok hN f3
  obtain ⟨cl, ecl⟩ : ∃ cl, cl = cellsFrom ((s2.heap.push o0).objs.size + 1) scope.names (cloFrom X.env.cells scope.names []) := ⟨_, rfl⟩
  have st4 : tn 0 (pushCells ((s2.heap.push o0).push { cls := .type "dict", data := .dict #[] }) scope.names) := T.keep _ _ _ st3 fun b _ o eo => pushCells_keeps _ _ _ _ (Heap.get?_push_of_some _ eo)
  obtain ⟨s4, es4⟩ : ∃ s4 : Shared, s4 = { s2 with heap := pushCells ((s2.heap.push o0).push { cls := .type "dict", data := .dict #[] }) scope.names } := ⟨_, rfl⟩
  have I4 : L2.Inv (X.blk { s2 with heap := s2.heap.push o0 } (upd H2 s2.heap.objs.size (new s2.heap.objs.size)) scope (compEnvC scope cl (s2.heap.push o0).objs.size X.env) fp) [] (wipe σ (own.map (·.2))) (upd H2 s2.heap.objs.size (new s2.heap.objs.size)) s4 := by
    rw [es4, ecl]
    exact I4
  have st4' : tn 0 s4.heap := by rw [es4]; exact st4
  have none0 : ∀ b ∈ fp, upd H2 s2.heap.objs.size (new s2.heap.objs.size) b = none := fun b hb => (f3 b hb).1.1
  have loop := loops { s2 with heap := s2.heap.push o0 } (upd H2 s2.heap.objs.size (new s2.heap.objs.size)) (s2.heap.push o0).objs.size cl fp it s2.heap.objs.size
    (fun n s' => ∃ i H', L2.Inv (X.blk { s2 with heap := s2.heap.push o0 } (upd H2 s2.heap.objs.size (new s2.heap.objs.size)) scope (compEnvC scope cl (s2.heap.push o0).objs.size X.env) fp) [] (wipe σ (own.map (·.2))) H' s' ∧ tn i s'.heap ∧ (∀ b ∈ fp, H' b = none) ∧ W i n H')
    (compPost (model X.prog X.w) X.A X.xe use Qf (.ref s2.heap.objs.size) (s2.heap.push o0).objs.size) ?_ m0 s4 ⟨0, _, I4, st4', none0, w0⟩
  · have all : codeAny (model X.prog X.w) X.A (.compStart e 0 (.ref it) (.ref s2.heap.objs.size) (compEnvC scope cl (s2.heap.push o0).objs.size X.env)) (compPost (model X.prog X.w) X.A X.xe use Qf (.ref s2.heap.objs.size) (s2.heap.push o0).objs.size) s4 :=
      starts _ _ _ _ _ loop (T.self X.A 0 _ _ _ st4' loop)
    rw [es4, ecl] at all
    exact all
  · rintro n s5 ⟨i, H5, I5, st5, n5, w5⟩
    have fine : ∀ {H' : Hp} {s' : Shared}, L2.Inv (X.blk { s2 with heap := s2.heap.push o0 } (upd H2 s2.heap.objs.size (new s2.heap.objs.size)) scope (compEnvC scope cl (s2.heap.push o0).objs.size X.env) fp) [] (wipe σ (own.map (·.2))) H' s' → (∀ b ∈ fp, H' b = none) →
        ∀ b ∈ fp, FpOk (X.blk { s2 with heap := s2.heap.push o0 } (upd H2 s2.heap.objs.size (new s2.heap.objs.size)) scope (compEnvC scope cl (s2.heap.push o0).objs.size X.env) fp) [] H' b := fun {H' s'} I' hn b hb =>
      ⟨hn b hb, (I'.ok.exf b hb).1, I'.ok.exfs b hb, .inl hb, fun x c ec => (I'.ok.exf b hb).2 x c ec, fun p hp => nomatch hp⟩
    unfold OneTurn2
    rcases turn i n H5 w5 with ⟨stop, qs⟩ | ⟨go, Nx, less, step⟩
    · refine thnF (T.done (X.blk _ _ scope _ fp) rfl rfl rfl hc i [] s5 _ H5 nobody I5 (fine I5 n5) st5 stop) fun r s6 ⟨er, I6⟩ => ?_
      subst er
      have I7 : L2.Inv X pins σ H5 s6 := I3.call' (ch := fp) I6.os I6.base I6.hok I6.bare fun b hb => by
        obtain ⟨_, k1, k2, k3, k4, k5⟩ := (f3 b hb).1
        exact ⟨k3, k1, k4, k5⟩
      obtain ⟨mm, ns, _⟩ := I6.loc
      exact out _ _ s6 mm H5 I7 qs ns (I3.fpOk (Nat.le_refl _) I6.free)
    · refine thnF (T.item (X.blk _ _ scope _ fp) rfl rfl rfl hc i [] s5 _ H5 nobody I5 (fine I5 n5) st5 go) fun r s6 ⟨u, er, h6⟩ => ?_
      subst er
      refine thnF h6 fun _ s7 ⟨x, H7, I7, rel, yl, st7, n7⟩ => ?_
      have I8 := I7.pinned (fine I7 n7) (T.obj _ _ st7)
      refine thnF ((hg _ _ _ cl fp).run _ s7 _ H7 x u _ I8 rel (step x H7 yl)) fun _ s8 ⟨σ8, H8, I9, kw, q8⟩ => ?_
      refine thnF ((ht _ _ _ cl fp).run _ s8 σ8 H8 _ I9 q8) fun b s9 ⟨H9, I10, q9⟩ => ?_
      refine ⟨_, σ8, H9, Nx, I10, q9, fun s' H' σ' el kn I' nx => ?_⟩
      obtain ⟨m', lt, w'⟩ := less H' nx
      have held : ∀ c ∈ fp, ∀ o, s7.heap.get? c = some o → s'.heap.get? c = some o ∧ H' c = none := fun c hcc o eo => by
        obtain ⟨k1, k2, _⟩ := I'.pin (c, o) (List.mem_append_right _ (List.mem_append_right _ (mem_pinsAt hcc eo)))
        exact ⟨k1, k2⟩
      refine ⟨m', lt, i + 1, H', (I'.unpinned (pins := [])).weak (by rw [← kw, wipe_length, el]) (fun j v ev => kn j v (by rw [kw]; exact ev)), T.keep _ _ _ st7 fun c hcc o eo => (held c hcc o eo).1, fun c hcc => ?_, w'⟩
      · obtain ⟨o, eo, _⟩ := T.obj _ _ st7 c hcc
        exact (held c hcc o eo).2
end
section
variable {X : Cx} {elt t0 i0 t1 i1 : Expr} {ifs0 ifs1 : List Expr} {scope : Scope} {pos : Pos}
/-- the second clause's loop, of which OneTurn tells each turn -/
theorem set2_in {s3 : Shared} {H3 : Hp} {sc : Scope} {ce : Env} {fp : List Addr} {it D : Addr} {te : TE} {Iv : Nat → Shared → Prop} {R : Result → Shared → Prop} {s : Shared} (he : PE (X.blk s3 H3 sc ce fp) elt te)
    (turns : ∀ n s5, Iv n s5 → OneTurn X (X.blk s3 H3 sc ce fp) t1 ifs1 it (fun σ H Nx => te σ H fun y H4 => ∃ (k : Key) (S : Key → Bool) (m : Nat), y = kV k ∧ H4 D = some (SetQO X.prog X.w D S m) ∧ m + 1 < scanBound ∧ Nx (upd H4 D (SetQO X.prog X.w D (fun j => S j || decide (j = k)) (if S k = true then m else m + 1)))) Iv (fun s1 => R (.ok .next) s1) n s5)
    (n : Nat) (h : Iv n s) : codeAny (model X.prog X.w) X.A (.compLoop (.SetComp elt [⟨t0, i0, ifs0, 0⟩, ⟨t1, i1, ifs1, 0⟩] scope pos) 1 (.ref it) (.ref D) ce) R s := by
  refine codeAny_loop rfl Iv (fun n s hI => ?_) n h
  refine wpAny_noted ?_
  show wpAny _ _ (standAt _ >>= _) _ _ s
  refine wpAny_bind (wpAny_standAt (wpAny_bind (thnF (turns n s hI) fun r s6 h6 => ?_)))
  cases r with
  | none => exact wpAny_pure h6
  | some v =>
    refine wpAny_bind (thnF h6 fun _ s7 h7 => ?_)
    refine wpAny_bind (thnF h7 fun _ s8 h8 => wpAny_bind (thnF h8 fun b s9 ⟨pl, σ9, H9, Nx, I9, q9, next⟩ => ?_))
    cases b with
    | false => exact wpAny_pure ⟨rfl, next s9 H9 I9 q9⟩
    | true =>
      refine wpAny_bind (wpAny_bind (thnF (he.run pl s9 σ9 H9 _ I9 q9) fun z s10 ⟨y, H10, I10, r10, k, S, m, ey, at10, room, nx⟩ => wpAny_bind (wpAny_standAt (wpAny_bind ?_))))
      subst ey
      exact call_add (get_setQ I10 at10) (is_key r10) room fun h' sb R' => wpAny_pure (wpAny_pure ⟨rfl, next _ _ (wrote I10 at10 sb R') nx⟩)
/-- the second clause begins -/
theorem set2_start {it acc : Value} {ce : Env} {R : Result → Shared → Prop} {s : Shared} (again_ : codeAny (model X.prog X.w) X.A (.compLoop (.SetComp elt [⟨t0, i0, ifs0, 0⟩, ⟨t1, i1, ifs1, 0⟩] scope pos) 1 it acc ce) R s)
    (anew : wpAny (model X.prog X.w) X.A (pyIter it) (fun it' s' => codeAny (model X.prog X.w) X.A (.compLoop (.SetComp elt [⟨t0, i0, ifs0, 0⟩, ⟨t1, i1, ifs1, 0⟩] scope pos) 1 it' acc ce) R s') (notedBy (model X.prog X.w) X.A ce fun x s' => R (.error x) s') s) :
    codeAny (model X.prog X.w) X.A (.compStart (.SetComp elt [⟨t0, i0, ifs0, 0⟩, ⟨t1, i1, ifs1, 0⟩] scope pos) 1 it acc ce) R s := by
  refine codeAny_of_tree (wpAny_notedAt ?_)
  show wpAny _ _ (ask >>= _) _ _ s
  refine wpAny_bind (wpAny_askSetting (wpAny_ite ?_))
  split
  · first
      | exact wpAny_pure ⟨rfl, again_⟩
      | exact wpAny_bind (wpAny_pure (wpAny_pure ⟨rfl, again_⟩))
  · refine wpAny_bind (wpAny_rule ?_)
    show wpAny _ _ (standAt _ >>= _) _ _ s
    exact wpAny_bind (wpAny_standAt (wpAny_bind (wpAny_mono anew (fun it' s' k => wpAny_pure (And.intro rfl k)) fun _ _ k => k)))
/-- a turn of the second clause's loop -/
theorem one_in {s3 : Shared} {H3 : Hp} {sc : Scope} {ce : Env} {fp fp1 : List Addr} {tg : Expr} {ifs : List Expr} {it : Addr} {tn : Nat → Heap → Prop} {J : It} {pl : List (Addr × Obj)} {σ : L2.St} {vs : List Nat} {g : TG} {tt : TT} {W : Nat → Nat → Hp → Prop} {body : L2.St → Hp → (Hp → Prop) → Prop} {stop : Shared → Prop}
    (calm : X.calm = true) (T : Turn X.prog X.w X.K tg J fp1 it tn) (hg : PG (X.blk s3 H3 sc ce fp) tg g) (ht : PTs (X.blk s3 H3 sc ce fp) ifs tt) (fr : ∀ (H' : Hp), (∀ b ∈ fp1, H' b = none) → ∀ b ∈ fp1, FpOk (X.blk s3 H3 sc ce fp) pl H' b)
    (turn : ∀ (j k : Nat) (H : Hp), W j k H → (J.stop j H ∧ ∀ s', L2.Inv (X.blk s3 H3 sc ce fp) pl (wipe σ vs) H s' → stop s') ∨
      (J.go j H ∧ ∃ Nx : Hp → Prop, (∀ H', Nx H' → ∃ k', k' < k ∧ W (j + 1) k' H') ∧ ∀ x H', J.yld j H x H' → g x (wipe σ vs) H' fun σ2 H4 => wipe σ2 vs = wipe σ vs ∧ tt σ2 H4 fun b H5 => if b = true then body σ2 H5 Nx else Nx H5))
    (k : Nat) (s : Shared) (at_ : ∃ (j : Nat) (H : Hp), L2.Inv (X.blk s3 H3 sc ce fp) pl (wipe σ vs) H s ∧ tn j s.heap ∧ (∀ b ∈ fp1, H b = none) ∧ W j k H) :
    OneTurn X (X.blk s3 H3 sc ce fp) tg ifs it body (fun k s => ∃ (j : Nat) (H : Hp), L2.Inv (X.blk s3 H3 sc ce fp) pl (wipe σ vs) H s ∧ tn j s.heap ∧ (∀ b ∈ fp1, H b = none) ∧ W j k H) stop k s := by
  obtain ⟨j, H, I5, st5, n5, w5⟩ := at_
  unfold OneTurn
  rcases turn j k H w5 with ⟨ends, qs⟩ | ⟨go, Nx, less, step⟩
  · refine thnF (T.done (X.blk s3 H3 sc ce fp) rfl rfl rfl calm j _ s (wipe σ vs) H nobody I5 (fr H n5) st5 ends) fun r s6 ⟨er, I6⟩ => ?_
    subst er
    exact qs s6 I6
  · refine thnF (T.item (X.blk s3 H3 sc ce fp) rfl rfl rfl calm j _ s (wipe σ vs) H nobody I5 (fr H n5) st5 go) fun r s6 ⟨u, er, h6⟩ => ?_
    subst er
    refine thnF h6 fun _ s7 ⟨x, H7, I7, rel, yl, st7, n7⟩ => ?_
    have I8 := I7.pinned (fr H7 n7) (T.obj _ _ st7)
    refine thnF (hg.run _ s7 _ H7 x u _ I8 rel (step x H7 yl)) fun _ s8 ⟨σ8, H8, I9, kw, q8⟩ => ?_
    refine thnF (ht.run _ s8 σ8 H8 _ I9 q8) fun b s9 ⟨H9, I10, q9⟩ => ?_
    refine ⟨_, σ8, H9, Nx, I10, q9, fun s' H' I' nx => ?_⟩
    obtain ⟨m', lt, w'⟩ := less H' nx
    have held : ∀ c ∈ fp1, ∀ o, s7.heap.get? c = some o → s'.heap.get? c = some o ∧ H' c = none := fun c hcc o eo => by
      obtain ⟨k1, k2, _⟩ := I'.pin (c, o) (List.mem_append_right _ (List.mem_append_right _ (mem_pinsAt hcc eo)))
      exact ⟨k1, k2⟩
    refine ⟨m', lt, j + 1, H', I'.unpinned.weak (by rw [← kw, wipe_length]) (fun i v ev => ?_), T.keep _ _ _ st7 fun c hcc o eo => (held c hcc o eo).1, fun c hcc => ?_, w'⟩
    · rw [← kw] at ev
      exact (wipe_some ev).1
    · obtain ⟨o, eo, _⟩ := T.obj _ _ st7 c hcc
      exact (held c hcc o eo).2
/-- a heap as it is, or with one lock gone -/
def Eases (Lk : Addr → Prop) (H H' : Hp) : Prop := H' = H ∨ ∃ d od u, Lk d ∧ H d = some (.frz od u) ∧ H' = upd H d u
/-- what a turn of the first clause does: the second clause's loop, from which Nx is reached; what its head has locked is unlocked behind it -/
def tInner (P : Program) (w : World) (D : Addr) (wi1 : TI) (g1 : TG) (tt1 : TT) (te : TE) (vs1 : List Nat) : L2.St → Hp → (Hp → Prop) → Prop := fun σ H Nx => ∀ Lk : Addr → Prop, (∀ d u, H d = some u → Mut (some u) → Lk d) → wi1 σ H fun J1 H4 =>
  ∃ W1 : Nat → Nat → Hp → Prop, (∃ m, W1 0 m H4) ∧ ∀ j k H5, W1 j k H5 →
    (J1.stop j H5 ∧ ∃ H7, Eases Lk H5 H7 ∧ Nx H7) ∨ (J1.go j H5 ∧ ∃ Nx1 : Hp → Prop, (∀ H', Nx1 H' → ∃ k', k' < k ∧ W1 (j + 1) k' H') ∧ ∀ x H', J1.yld j H5 x H' → g1 x (wipe σ vs1) H' fun σ3 H6 => wipe σ3 vs1 = wipe σ vs1 ∧ tt1 σ3 H6 fun b H8 =>
      if b = true then te σ3 H8 fun y H9 => ∃ (k : Key) (S : Key → Bool) (m : Nat), y = kV k ∧ H9 D = some (SetQO P w D S m) ∧ m + 1 < scanBound ∧ Nx1 (upd H9 D (SetQO P w D (fun j => S j || decide (j = k)) (if S k = true then m else m + 1))) else Nx1 H8)
def tSetQ2 (P : Program) (w : World) (wi : TI) (g : TG) (tt : TT) (wi1 : TI) (g1 : TG) (tt1 : TT) (te : TE) (vs vs1 : List Nat) : TE :=
  tGather (fun D => SetQO P w D (fun _ => false) 0) (fun D => tInner P w D wi1 g1 tt1 te vs1) wi g tt vs
theorem pe_setQ2 {elt tg iter tg1 iter1 : Expr} {ifs ifs1 : List Expr} {scope : Scope} {own : List (PySem.Str × Nat)} {vs1 : List Nat} {pos : Pos} {wi wi1 : TI} {g g1 : TG} {tt tt1 : TT} {te : TE} (hc : X.calm = true) (hN : X.N.Nodup) (hi : PI X tg iter wi) (ok : BlkOk X.N X.env.scope scope own) (hv : ∀ i ∈ vs1, i ∈ own.map (·.2))
    (hg : ∀ (s : Shared) (H : Hp) (C : Addr) (cl : List (PySem.Str × Addr)) (fp : List Addr), PG (X.blk s H scope (compEnvC scope cl C X.env) fp) tg g) (ht : ∀ (s : Shared) (H : Hp) (C : Addr) (cl : List (PySem.Str × Addr)) (fp : List Addr), PTs (X.blk s H scope (compEnvC scope cl C X.env) fp) ifs tt)
    (hi1 : ∀ (s : Shared) (H : Hp) (C : Addr) (cl : List (PySem.Str × Addr)) (fp : List Addr), PI (X.blk s H scope (compEnvC scope cl C X.env) fp) tg1 iter1 wi1)
    (hg1 : ∀ (s : Shared) (H : Hp) (C : Addr) (cl : List (PySem.Str × Addr)) (fp : List Addr), PG (X.blk s H scope (compEnvC scope cl C X.env) fp) tg1 g1) (ht1 : ∀ (s : Shared) (H : Hp) (C : Addr) (cl : List (PySem.Str × Addr)) (fp : List Addr), PTs (X.blk s H scope (compEnvC scope cl C X.env) fp) ifs1 tt1)
    (he : ∀ (s : Shared) (H : Hp) (C : Addr) (cl : List (PySem.Str × Addr)) (fp : List Addr), PE (X.blk s H scope (compEnvC scope cl C X.env) fp) elt te) (hs : ∀ x, foldedSetIterable iter X.env x = pure x := by intro _; rfl) (hs1 : ∀ env x, foldedSetIterable iter1 env x = pure x := by intro _ _; rfl) :
    PE X (.SetComp elt [⟨tg, iter, ifs, 0⟩, ⟨tg1, iter1, ifs1, 0⟩] scope pos) (tSetQ2 X.prog X.w wi g tt wi1 g1 tt1 te (own.map (·.2)) vs1) := by
  constructor
  intro pins s σ H Q I h
  rw [PpSet.eval_SetComp]
  refine gather2 (o0 := newbie X.w) hc hN I hi ok rfl (fun s Q q => PpSet.newSet_ok q) (fun s H I' => ok_setQO (setQ_new (Heap.get?_push_size _ rfl))) hg ht ?_ (fun it acc ce R s4 a b => PpSet.codeAny_compStart_set a b) hs h ?_
  · intro s3 H3 C cl fp it D Iv R turns n s4 i4
    refine codeAny_loop rfl Iv (fun n s hI => ?_) n i4
    refine wpAny_noted ?_
    show wpAny _ _ (standAt _ >>= _) _ _ s
    refine wpAny_bind (wpAny_standAt (wpAny_bind (thnF (turns n s hI) fun r s6 h6 => ?_)))
    cases r with
    | none => exact wpAny_pure h6
    | some v =>
      refine wpAny_bind (thnF h6 fun _ s7 h7 => ?_)
      refine wpAny_bind (thnF h7 fun _ s8 h8 => wpAny_bind (thnF h8 fun b s9 ⟨pl, σ9, H9, Nx, I9, q9, next⟩ => ?_))
      cases b with
      | false => exact wpAny_pure ⟨rfl, next s9 H9 σ9 rfl (fun j v e => (wipe_some e).1) I9 q9⟩
      | true =>
        have q := q9 (fun d => ∀ o' u', (X.blk s3 H3 scope (compEnvC scope cl C X.env) fp).H_0 d ≠ some (.frz o' u')) fun d u e mu => I9.nofrz e mu
        refine wpAny_bind (thnF ((hi1 s3 H3 C cl fp).run pl s9 σ9 H9 _ I9 q) fun xv s10 hx => ?_)
        refine wpAny_bind (wpAny_standAt (wpAny_bind (wpAny_of_eq (hs1 _ xv) (wpAny_bind (wpAny_holding (thnF hx fun itv s11 h11 => ?_))))))
        obtain ⟨it1, fp1, tn1, J1, H11, e1, I11, T1, st11, f11, W1, ⟨m1, w1⟩, turn1⟩ := h11
        subst e1
        have loop : codeAny (model X.prog X.w) X.A (.compLoop (.SetComp elt [⟨tg, iter, ifs, 0⟩, ⟨tg1, iter1, ifs1, 0⟩] scope pos) 1 (.ref it1) (.ref D) (compEnvC scope cl C X.env)) (fun r s' => match r with
            | .ok _ => ∃ m, m < n ∧ Iv m s'
            | .error _ => False) s11 := by
          refine set2_in (he s3 H3 C cl fp) (one_in (vs := vs1) (σ := σ9) (W := W1) (pl := pl) (stop := fun s' => ∃ m, m < n ∧ Iv m s') hc T1 (hg1 s3 H3 C cl fp) (ht1 s3 H3 C cl fp) (fun H' none_ b hb => ⟨none_ b hb, (f11 b hb).2⟩) (fun j k H5 w => ?_)) m1 ⟨0, H11, I11.weak (wipe_length _ _) (fun j v e => (wipe_some e).1), st11, fun b hb => (f11 b hb).1, w1⟩
          rcases turn1 j k H5 w with ⟨ends, H7, ease, nx⟩ | more
          · refine .inl ⟨ends, fun s' I' => ?_⟩
            have I7 : L2.Inv (X.blk s3 H3 scope (compEnvC scope cl C X.env) fp) pl (wipe σ9 vs1) H7 s' := by
              rcases ease with rfl | ⟨d, od, u, lk, at_, rfl⟩
              · exact I'
              · exact I'.unlock at_ lk
            refine next s' H7 (wipe σ9 vs1) (wipe_length _ _) (fun i v e => ?_) I7 nx
            obtain ⟨e1, e2⟩ := wipe_some e
            rw [wipe_out fun z => e2 (hv i z)]
            exact e1
          · exact .inr more
        refine wpAny_bind (wpAny_runOwn ?_)
        rw [Around.mark_none]
        refine codeAny_mono (set2_start loop (T1.self X.A 0 _ _ _ st11 loop)) fun r s' hr => ?_
        cases r with
        | ok f =>
          first
            | exact wpAny_pure ⟨rfl, hr⟩
            | exact wpAny_bind (wpAny_pure (wpAny_pure ⟨rfl, hr⟩))
        | error e => exact hr.elim
  · intro D C s' m H' I' q ns f
    refine ⟨m, ns, fun h2 sb => ?_⟩
    obtain ⟨f0, f1, f2, f3, f4, f5⟩ := f
    exact ⟨.ref D, H', I'.turned (t' := s'.toks) (fun b o hb e => (sb.2 b hb).trans e) f0 f1 f3 f4 f5, rfl, q⟩
end
end MX
end
section
/-! Dicts whose keys are numbers, words or None. -/
namespace MX
open PySem PySem.Spec PyProof.Rows L2 PySem.W

abbrev NK : Type := Option Key
/-- a key as a value -/
def nV : NK → V
  | none => .non
  | some k => kV k
theorem is_nV {P : Program} {w : World} {k : NK} {u : Value} (r : RelV (nV k) u) : (noneKind P w).is k u = true := by
  cases k with
  | none => cases r; rfl
  | some k => exact is_key r
theorem rel_nV {P : Program} {w : World} {k : NK} {u : Value} (h : (noneKind P w).is k u = true) : RelV (nV k) u := by
  cases k with
  | none => cases nk_none (show nkIs none u = true from h); rfl
  | some k => exact relV_key (show keyIs k u = true from h)

/-- at a stands a dict with these keys, in this order -/
structure DictN (P : Program) (w : World) (h : Heap) (a : Addr) (kvs : List (NK × V)) : Prop where
  low : kvs.length ≤ sizeLine
  user : (a == sysModules) = false
  ex : ∃ vs, KV kvs vs ∧ h.DictOf (noneKind P w) a vs
def DictNO (P : Program) (w : World) (a : Addr) (kvs : List (NK × V)) : HO := .ext fun h => DictN P w h a kvs
section
variable {P : Program} {w : World} {h : Heap} {a : Addr} {kvs : List (NK × V)}
theorem DictN.stays {h' : Heap} (R : DictN P w h a kvs) (k : ∀ o, h.get? a = some o → h'.get? a = some o) : DictN P w h' a kvs := by
  obtain ⟨vs, r, o, es, ep, ho, more⟩ := R.ex
  exact ⟨R.low, R.user, vs, r, o, es, ep, k o ho, more⟩
theorem DictN.obj (R : DictN P w h a kvs) : ∃ o, h.get? a = some o ∧ o.dict = none := by
  obtain ⟨vs, r, o, es, ep, ho, ex, _⟩ := R.ex
  exact ⟨o, ho, ex.2.1⟩
theorem DictN.ty {s : Shared} (R : DictN P w s.heap a kvs) : s.TypeIs (.ref a) "dict" := by
  obtain ⟨vs, r, d⟩ := R.ex
  exact d.typeIs
theorem ok_dictN {H : Hp} (R : DictN P w h a kvs) : ObjOk P w H h a (DictNO P w a kvs) := ⟨R, let ⟨o, ho, _⟩ := R.obj; ⟨o, ho⟩, fun _ _ p k => DictN.stays p k⟩
theorem new_dictN {H : Hp} (h : Heap) (big : sysModules < h.objs.size) : ObjOk P w H (h.push { cls := .type "dict", data := .dict #[] }) h.objs.size (DictNO P w h.objs.size []) := by
  refine ok_dictN ⟨Nat.zero_le _, beq_eq_false_iff_ne.mpr (Nat.ne_of_gt big), [], .nil, ?_⟩
  exact ⟨_, #[], 0, Heap.get?_push_size _ rfl, ⟨rfl, rfl, rfl⟩, rfl, fun e he => by simp at he, .nil, List.nodup_nil⟩
end

section
variable {X : Cx} {pins : List (Addr × Obj)} {σ : L2.St} {H : Hp} {s : Shared} {a : Addr} {kvs : List (NK × V)}
theorem dn_of (I : L2.Inv X pins σ H s) (e : Rd H a (DictNO X.prog X.w a kvs)) : DictN X.prog X.w s.heap a kvs := (rd_of I.hok e).1
/-- d[k] = v, the dict as it is -/
theorem dn_put {k : NK} {v : V} {u r : Value} {E : Value → Shared → Prop} {A : Around} {Q : Unit → Shared → Prop} (I : L2.Inv X pins σ H s) (e : H a = some (DictNO X.prog X.w a kvs)) (room : kvs.length < sizeLine) (ru : RelV (nV k) u) (rv : RelV v r)
    (q : ∀ s', L2.Inv X pins σ (upd H a (DictNO X.prog X.w a (putK kvs k v))) s' → Q () s') : wpAny (model X.prog X.w) A (dictSet a u r) Q E s := by
  have R := dn_of I (.inl e)
  obtain ⟨vs, rel, d⟩ := R.ex
  have few := length_putK kvs k v
  refine wpAny_dictSet_pairs (hsz := by rw [← rel.length]; exact R.low) (is_nV ru) d fun h' d' sb => q _ ?_
  have R' : DictN X.prog X.w h' a (putK kvs k v) := ⟨by omega, R.user, _, rel.put k rv, d'⟩
  have ⟨o, ho, _⟩ := R'.obj
  exact d_write I (by rw [e]; exact True.intro) sb ⟨o, ho⟩ (ok_dictN R')
end
end MX
end
section
/-! Such dicts read: stores, items, get, ==, for (k, v) in d.items(), comprehensions. -/
namespace MX
open PySem PySem.Spec PyProof.Rows L2 PySem.W

def tGetN (P : Program) (w : World) (td ty : TE) : TE := fun σ H Q => td σ H fun x H1 => ty σ H1 fun y H2 => ∃ (a : Addr) (kvs : List (NK × V)) (k : NK) (v : V), x = .ref a ∧ y = nV k ∧ Rd H2 a (DictNO P w a kvs) ∧ valV kvs k = some v ∧ Q v H2
def tGet1N (P : Program) (w : World) (td ty : TE) : TE := fun σ H Q => td σ H fun x H1 => ∃ (a : Addr) (kvs : List (NK × V)), x = .ref a ∧ Rd H1 a (DictNO P w a kvs) ∧ ty σ H1 fun y H2 => ∃ k : NK, y = nV k ∧ Rd H2 a (DictNO P w a kvs) ∧ Q ((valV kvs k).getD .non) H2
def sPutN (P : Program) (w : World) (td ty tv : TE) : TS := fun D σ H => tv σ H fun v H1 => td σ H1 fun x H2 => ty σ H2 fun y H3 => ∃ (a : Addr) (kvs : List (NK × V)) (k : NK), x = .ref a ∧ y = nV k ∧ H3 a = some (DictNO P w a kvs) ∧ kvs.length < sizeLine ∧ D.nx σ (upd H3 a (DictNO P w a (putK kvs k v)))
def rEqN (P : Program) (w : World) (neg : Bool) : R2 := fun x y H Q => ∃ (a b : Addr) (ks ls : List (NK × V)), x = .ref a ∧ y = .ref b ∧ H a = some (DictNO P w a ks) ∧ H b = some (DictNO P w b ls) ∧ ks.length = ls.length ∧ (∀ p ∈ ks, valV ls p.1 = some p.2 ∧ flatB p.2 = true) ∧ Q (.bl (!neg)) H
/-- the pairs of a locked dict -/
def ItN (P : Program) (w : World) (d : Addr) (o : Obj) (kvs : List (NK × V)) : It where
  go i H := H d = some (.frz o (DictNO P w d kvs)) ∧ i < kvs.length
  yld i H x H' := ∃ (T : Addr) (k : NK) (v : V), kvs[i]? = some (k, v) ∧ x = .ref T ∧ H T = none ∧ H' = upd H T (.tup [nV k, v])
  stop i H := H d = some (.frz o (DictNO P w d kvs)) ∧ kvs.length ≤ i
def iItN (P : Program) (w : World) (td : TE) : TI := fun σ H R => td σ H fun x H1 => ∃ (d : Addr) (o : Obj) (kvs : List (NK × V)), x = .ref d ∧ H1 d = some (.frz o (DictNO P w d kvs)) ∧ R (ItN P w d o kvs) H1

section
variable {X : Cx} {pins : List (Addr × Obj)} {σ : L2.St} {H : Hp} {s : Shared} {a : Addr} {kvs : List (NK × V)}
theorem get_n {k : NK} {v : V} {u : Value} {E : Value → Shared → Prop} {A : Around} {Q : Value → Shared → Prop} (I : L2.Inv X pins σ H s) (e : Rd H a (DictNO X.prog X.w a kvs)) (ru : RelV (nV k) u) (at_ : valV kvs k = some v)
    (q : ∀ r s', L2.Inv X pins σ H s' → RelV v r → Q r s') : wpAny (model X.prog X.w) A (getItem (.ref a) u) Q E s := by
  obtain ⟨vs, rel, d⟩ := (dn_of I e).ex
  have z := rel.val k
  rw [at_] at z
  obtain ⟨r, er, rv⟩ := RelO.some_of z
  exact wpAny_getItem_of (is_nV ru) d.mapOf er (q r _ (I.tok _) rv)
theorem store_n {k : NK} {v : V} {u r : Value} {E : Value → Shared → Prop} {A : Around} {Q : Unit → Shared → Prop} (I : L2.Inv X pins σ H s) (e : H a = some (DictNO X.prog X.w a kvs)) (room : kvs.length < sizeLine) (ru : RelV (nV k) u) (rv : RelV v r)
    (q : ∀ s', L2.Inv X pins σ (upd H a (DictNO X.prog X.w a (putK kvs k v))) s' → Q () s') : wpAny (model X.prog X.w) A (setItem (.ref a) u r) Q E s := by
  have R := dn_of I (.inl e)
  obtain ⟨vs, rel, d⟩ := R.ex
  have few := length_putK kvs k v
  refine wpAny_setItem_pairs (hsz := by rw [← rel.length]; exact R.low) (is_nV ru) d fun h' d' sb => q _ ?_
  have R' : DictN X.prog X.w h' a (putK kvs k v) := ⟨by omega, R.user, _, rel.put k rv, d'⟩
  have ⟨o, ho, _⟩ := R'.obj
  exact d_write I (by rw [e]; exact True.intro) sb ⟨o, ho⟩ (ok_dictN R')
theorem is_dict (I : L2.Inv X pins σ H s) (e : Rd H a (DictNO X.prog X.w a kvs)) : s.TypeIs (.ref a) "dict" ∧ ∀ b, Value.ref a = .ref b → ∃ o, s.heap.get? b = some o ∧ o.dict = none :=
  ⟨(dn_of I e).ty, fun b eb => by cases eb; exact (dn_of I e).obj⟩
end
section
variable {X : Cx} {d i e v : Expr} {td ty tv : TE} {pos pos' apos cpos : Pos}
theorem pe_getN (hd : PE X d td) (hi : PE X i ty) (one : NoSl i) : PE X (.Subscript d i pos) (tGetN X.prog X.w td ty) := by
  constructor
  intro pins s σ H Q I h
  refine subD_of F.slot_dict_getitem.lookup one (thn (hd.run pins s σ H _ I h) fun r1 s1 ⟨x, H1, I1, rx, h1⟩ => thn (hi.run pins s1 σ H1 _ I1 h1) fun r2 s2 ⟨y, H2, I2, ry, a, kvs, k, v, ex, ey, at_, val, q⟩ => ?_)
  subst ex ey
  cases rx
  exact ⟨(is_dict I2 at_).1, get_n I2 at_ ry val fun r s3 I3 rv => ⟨v, H2, I3, rv, q⟩⟩
theorem ps_putN (hd : PE X d td) (hi : PE X i ty) (hv : PE X v tv) (sw : swapsWith v (some (.Subscript d i pos')) pos.line X.env = pure false) : PS X (.Assign [.Subscript d i pos'] v pos) (sPutN X.prog X.w td ty tv) := by
  constructor
  intro pins s σ H D I h
  refine wpAny_Assign_Subscript (thn (hv.run pins s σ H _ I h) fun r0 s0 ⟨z, H0, I0, rz, h0⟩ => thn (hd.run pins s0 σ H0 _ I0 h0) fun r1 s1 ⟨x, H1, I1, rx, h1⟩ => thn (hi.run pins s1 σ H1 _ I1 h1) fun r2 s2 ⟨y, H2, I2, ry, a, kvs, k, ex, ey, at_, room, q⟩ => ?_) sw
  subst ex ey
  cases rx
  exact store_n I2 at_ room ry rz fun s3 I3 => ⟨σ, _, I3, q⟩
theorem pe_get1N (hd : PE X d td) (he : PE X e ty) (m : M1 X d "get" apos e cpos) : PE X (.Call (.Attribute d "get" apos) [e] [] cpos) (tGet1N X.prog X.w td ty) := by
  constructor
  intro pins s σ H Q I h
  refine wpAny_Call_method m.base m.few m.line F.plainAttrs_dict F.slot_dict_get F.type_dict_get (thn (hd.run pins s σ H _ I h) fun r1 s1 ⟨x, H1, I1, rx, a, kvs, ex, at1, h1⟩ => ?_)
  subst ex
  cases rx
  refine ⟨(is_dict I1 at1).1, (is_dict I1 at1).2, ?_⟩
  rw [m.trees]
  refine Calls.callWith_builtin rfl (Calls.evalArgs_plain (Calls.spliced_cons (thn (he.run pins s1 σ H1 _ I1 h1) fun r2 s2 ⟨y, H2, I2, ry, k, ey, at2, q⟩ => Calls.spliced_nil ?_)))
  subst ey
  have R := dn_of I2 at2
  obtain ⟨vs, rel, dd⟩ := R.ex
  exact call_meetsIn F.slot_dict_get R.ty F.entry_dict_get (F.args_dict_get_2 _ _) (meets_dict_get (noneKind X.prog X.w) a (is_nV ry) R.user) ⟨_, dd.mapOf, ⟨_, H2, I2.tok _, (rel.val k).getD (show RelV .non .none from rfl), q⟩⟩
theorem op_eqN (hu : X.A.units < cLine) : OpR X (compareOp .Eq) (rEqN X.prog X.w false) := by
  intro pins s σ H x y r1 r2 Q I rx ry ⟨a, b, ks, ls, ex, ey, ea, eb, len, all, q⟩
  subst ex ey
  cases rx
  cases ry
  have A := dn_of I (.inl ea)
  have B := dn_of I (.inl eb)
  obtain ⟨va, ka, da⟩ := A.ex
  obtain ⟨vb, kb, db⟩ := B.ex
  exact keq_eq (r := true) A.user B.user da db hu (fun _ => hits_all kb ka all) (fin_bl I q (by rw [← ka.length, ← kb.length, len]; simp))
theorem op_neN (hu : X.A.units < cLine) : OpR X (compareOp .NotEq) (rEqN X.prog X.w true) := by
  intro pins s σ H x y r1 r2 Q I rx ry ⟨a, b, ks, ls, ex, ey, ea, eb, len, all, q⟩
  subst ex ey
  cases rx
  cases ry
  have A := dn_of I (.inl ea)
  have B := dn_of I (.inl eb)
  obtain ⟨va, ka, da⟩ := A.ex
  obtain ⟨vb, kb, db⟩ := B.ex
  exact keq_ne (r := true) A.user B.user da db hu (fun _ => hits_all kb ka all) (fin_bl I q (by rw [← ka.length, ← kb.length, len]; simp))
end

/-! ### for (k, v) in d.items() -/
section
variable {X : Cx} {pins : List (Addr × Obj)} {σ : L2.St} {H : Hp} {s : Shared} {d : Addr} {o : Obj} {kvs : List (NK × V)}
/-- what a locked dict's object is -/
theorem locked (I : L2.Inv X pins σ H s) (e : H d = some (.frz o (DictNO X.prog X.w d kvs))) : ∃ es ep vs, o.data = .dict es ep ∧ KV kvs vs ∧ s.heap.DictAt (noneKind X.prog X.w) d vs ep ∧ (d == sysModules) = false := by
  obtain ⟨ho, R, _⟩ := I.hok d _ e
  obtain ⟨vs, rel, o', es, ep, ho', ex, hd, more⟩ := DictN.ex R
  obtain rfl : o = o' := Option.some.inj (ho.symm.trans ho')
  exact ⟨es, ep, vs, hd, rel, ⟨o, es, ho, ex, hd, more⟩, DictN.user R⟩
theorem kv_at {vs : List (NK × Value)} (rel : KV kvs vs) {i : Nat} (lt : i < kvs.length) : ∃ k v u, kvs[i]? = some (k, v) ∧ vs[i]? = some (k, u) ∧ RelV v u := by
  obtain ⟨u, eu, ru⟩ := kv_get rel (i := i) (k := (kvs[i]).1) (v := (kvs[i]).2) (by rw [List.getElem?_eq_getElem lt])
  exact ⟨_, _, u, by rw [List.getElem?_eq_getElem lt], eu, ru⟩
end
theorem turn_itN {P : Program} {w : World} {K : PySem.W.Frag} {elts : List Expr} {kk : Nat} {tpos : Pos} {d : Addr} {o : Obj} {kvs : List (NK × V)} {es : Array DictEntry} {ep : Nat} (it : Addr) (data : o.data = .dict es ep) :
    Turn P w K (.Tuple elts kk tpos) (ItN P w d o kvs) [it] it (fun i h => ∃ ok ov, IsItemIter h it d i kvs.length ep ok ov) := by
  have only : ∀ {b : Addr}, b ∈ [it] → b = it := fun h => by simpa using h
  refine { mem := List.mem_cons_self, obj := ?obj, keep := ?keep, item := ?item, done := ?done, self := ?self }
  case obj =>
    rintro i h ⟨ok, ov, z⟩ b hb
    rw [only hb]
    exact ⟨_, z, fun v c => by cases c⟩
  case keep => exact fun i h h' ⟨ok, ov, z⟩ k => ⟨ok, ov, k it List.mem_cons_self _ z⟩
  case self => exact fun A i s Q E ⟨_, _, z⟩ q => kcp_self z q
  case item =>
    rintro X rfl rfl rfl calm i pins s σ H E I free ⟨ok, ov, z⟩ ⟨at_, lt⟩
    obtain ⟨es', ep', vs, data', rel, D, user⟩ := locked I at_
    obtain ⟨rfl, rfl⟩ : es' = es ∧ ep' = ep := by rw [data] at data'; cases data'; exact ⟨rfl, rfl⟩
    obtain ⟨k, v, u, ek, eu, ru⟩ := kv_at rel lt
    rw [rel.length] at z
    have young : it < s.heap.objs.size := Heap.lt_size z
    refine wpAny_pyNext_items_item z D eu fun key h1 is out tup size old => ⟨_, rfl, wpAny_letOwnedTupleGo_items (s := { s with heap := h1 }) out fun h2 z2 sb => ?_⟩
    have tup2 := (sb.2 s.heap.objs.size (Nat.ne_of_gt young)).trans tup
    have fresh := I.hok.fresh (Nat.le_refl s.heap.objs.size)
    refine ⟨.ref s.heap.objs.size, upd H s.heap.objs.size (.tup [nV k, v]), ?_, rfl, ⟨_, k, v, ek, rfl, fresh, rfl⟩, ⟨key, u, by rw [rel.length]; exact z2⟩, fun b hb => ?_⟩
    · refine I.turnedNew (t' := s.toks) (ch := [it]) (fun b ob out' e => ?_) free (Nat.le_refl _) ⟨(by decide : 2 ≤ sizeLine), [key, u], .cons (rel_nV is) (.cons ru .nil), _, tup2, rfl, _, rfl⟩
      have ne : b ≠ it := fun e' => out' (by rw [e']; exact List.mem_cons_self)
      exact (sb.2 b ne).trans (old b ob ne e)
    · rw [only hb, upd_ne (Nat.ne_of_lt young)]
      exact (free it List.mem_cons_self).1
  case done =>
    rintro X rfl rfl rfl calm i pins s σ H E I free ⟨ok, ov, z⟩ ⟨at_, le⟩
    obtain ⟨es', ep', vs, data', rel, D, user⟩ := locked I at_
    obtain ⟨rfl, rfl⟩ : es' = es ∧ ep' = ep := by rw [data] at data'; cases data'; exact ⟨rfl, rfl⟩
    rw [rel.length] at z le
    obtain ⟨none_, loc, frame, young, cells, pinned⟩ := free it List.mem_cons_self
    exact wpAny_pyNext_items_end (I.ok.hd calm) z D (List.getElem?_eq_none le) fun h1 eb => ⟨rfl, I.turned (t' := s.toks) (fun b ob ne e => eb b ob ne e) none_ loc young cells pinned⟩
theorem pi_itN {X : Cx} {e : Expr} {td : TE} {apos cpos tpos : Pos} {elts : List Expr} {kk : Nat} (he : PE X e td) (plain : attributeBase e "items" X.env (eval e X.env) = eval e X.env := by rfl) (row : (apos.endLine == cpos.line) = true := by rfl) :
    PI X (.Tuple elts kk tpos) (.Call (.Attribute e "items" apos) [] [] cpos) (iItN X.prog X.w td) := by
  constructor
  intro pins s σ H R I h
  refine wpAny_Call_method (T := "dict") (id := "dict.items") plain rfl row F.plainAttrs_dict F.slot_dict_items F.type_dict_items (thn (he.run pins s σ H _ I h) fun r1 s1 ⟨x, H1, I1, rx, d, o, kvs, ex, at_, q⟩ => ?_)
  subst ex
  cases rx
  obtain ⟨es, ep, vs, data, rel, D, user⟩ := locked I1 at_
  have ty := is_dict I1 (.inr ⟨o, at_⟩)
  refine ⟨ty.1, ty.2, method_meetsIn F.slot_dict_items F.entry_dict_items rfl (PySem.evalArgs_none ⟨rfl, ty.1, F.args_dict_items_1 _, _, meets_dict_items (noneKind X.prog X.w) d user, ⟨vs, D.dictOf⟩, ?_⟩)⟩
  have I2 : L2.Inv X pins σ H1 { s1 with heap := s1.heap.push { cls := .type "dict_items", data := .fields #[.ref d] } } := I1.kept (t' := s1.toks) fun b ob z => Heap.get?_push_of_some _ z
  refine wpAny_pyIter_items (knd := noneKind X.prog X.w) ⟨_, Heap.get?_push_size _ rfl, rfl, rfl⟩ (D.push _) (pi_one (tk := s1.toks) I2 _ (turn_itN _ data) ⟨.none, .none, ?_⟩ q)
  rw [rel.length]
  exact Heap.get?_push_size _ rfl

/-! ### {k: v for .. in ..} -/
def tDcN (P : Program) (w : World) (wi : TI) (g : TG) (tt : TT) (tk tv : TE) (vs : List Nat) : TE :=
  tGather (fun D => DictNO P w D []) (fun D σ H Nx => tk σ H fun y H4 => tv σ H4 fun z H5 => ∃ (kvs : List (NK × V)) (k : NK), y = nV k ∧ H5 D = some (DictNO P w D kvs) ∧ kvs.length < sizeLine ∧ Nx (upd H5 D (DictNO P w D (putK kvs k z)))) wi g tt vs
section
variable {X : Cx}
/-- behind the block, as a value -/
theorem block_gone {pins : List (Addr × Obj)} {σ : L2.St} {H : Hp} {s : Shared} {Q : VK} {D C : Addr} {m : PySem.Str → Option Value} (I : L2.Inv X pins σ H s) (q : Q (.ref D) H) (ns : s.heap.Ns C m) (f : FpOk X pins H C) :
    compPost (model X.prog X.w) X.A X.xe none (EP X pins σ Q) (.ref D) C (.ok .next) s := by
  refine ⟨m, ns, fun h2 sb => ⟨.ref D, H, ?_, rfl, q⟩⟩
  obtain ⟨none_, loc, frame, young, cells, pinned⟩ := f
  exact I.turned (t' := s.toks) (fun b o hb e => (sb.2 b hb).trans e) none_ loc young cells pinned
theorem pe_dcN {kx vx tg iter : Expr} {ifs : List Expr} {scope : Scope} {own : List (PySem.Str × Nat)} {pos : Pos} {wi : TI} {g : TG} {tt : TT} {tk tv : TE} (hc : X.calm = true) (hN : X.N.Nodup) (hi : PI X tg iter wi) (ok : BlkOk X.N X.env.scope scope own)
    (hg : ∀ (s : Shared) (H : Hp) (C : Addr) (cl : List (PySem.Str × Addr)) (fp : List Addr), PG (X.blk s H scope (compEnvC scope cl C X.env) fp) tg g) (ht : ∀ (s : Shared) (H : Hp) (C : Addr) (cl : List (PySem.Str × Addr)) (fp : List Addr), PTs (X.blk s H scope (compEnvC scope cl C X.env) fp) ifs tt)
    (hk : ∀ (s : Shared) (H : Hp) (C : Addr) (cl : List (PySem.Str × Addr)) (fp : List Addr), PE (X.blk s H scope (compEnvC scope cl C X.env) fp) kx tk)
    (he : ∀ (s : Shared) (H : Hp) (C : Addr) (cl : List (PySem.Str × Addr)) (fp : List Addr), PE (X.blk s H scope (compEnvC scope cl C X.env) fp) vx tv) (hs : ∀ x, foldedSetIterable iter X.env x = pure x := by intro _; rfl) :
    PE X (.DictComp kx vx [⟨tg, iter, ifs, 0⟩] scope pos) (tDcN X.prog X.w wi g tt tk tv (own.map (·.2))) := by
  constructor
  intro pins s σ H Q I h
  rw [arm_eval_DictComp]
  refine gather (o0 := { cls := .type "dict", data := .dict #[] }) hc hN I hi ok rfl (fun s Q q => wpAny_newObj_type q) (fun s H I' => new_dictN s.heap I'.big) hg ht ?_ (fun it acc ce R s4 a b => codeAny_compStart_dict a b) hs h ?_
  · intro s3 H3 C cl fp it D Iv R turns n s4 i4
    refine compLoop_anyD Iv (fun n s5 i5 => thnF (turns n s5 i5) fun r s6 h6 => ?_) n i4
    cases r with
    | none => exact h6
    | some v =>
      refine thnF h6 fun _ s7 h7 => thnF h7 fun _ s8 h8 => thnF h8 fun b s9 ⟨pl, σ9, H9, Nx, I9, q9, next⟩ => ?_
      cases b with
      | false => exact next s9 H9 I9 q9
      | true =>
        refine thnF ((hk s3 H3 C cl fp).run pl s9 σ9 H9 _ I9 q9) fun z s10 ⟨y, H10, I10, r10, q10⟩ => ?_
        refine thnF ((he s3 H3 C cl fp).run pl s10 σ9 H10 _ I10 q10) fun z2 s11 ⟨y2, H11, I11, r11, kvs, k, ey, atD, room, nx⟩ => ?_
        subst ey
        exact dn_put (X := X.blk s3 H3 scope (compEnvC scope cl C X.env) fp) I11 atD room r10 r11 fun s12 I12 => next s12 _ I12 nx
  · exact fun D C s' m H' I' q ns f => block_gone I' q ns f
end
end MX
end
section
/-! Dicts whose keys are tuples with tuples in them. -/
namespace MX
open PySem PySem.Spec PyProof.Rows L2 PySem.W

mutual
/-- the value v is the key k, as the tracked heap has it -/
inductive KeyV (H : Hp) : NestedKey → V → Prop
  | non : KeyV H .none .non
  | num (i : Int) : KeyV H (.num i) (.int i)
  | text (x : PySem.Str) : KeyV H (.text x) (.str x)
  | tup {ks : List NestedKey} {a : Addr} {vs : List V} : H a = some (.tup vs) → KeyVs H ks vs → KeyV H (.tup ks) (.ref a)
inductive KeyVs (H : Hp) : List NestedKey → List V → Prop
  | nil : KeyVs H [] []
  | cons {k : NestedKey} {v : V} {ks : List NestedKey} {vs : List V} : KeyV H k v → KeyVs H ks vs → KeyVs H (k :: ks) (v :: vs)
end
mutual
theorem KeyV.same {H H' : Hp} (e : ∀ b o, H b = some o → H' b = some o) : ∀ (k : NestedKey) (v : V), KeyV H k v → KeyV H' k v
  | .none, _, h => by cases h; exact .non
  | .num _, _, h => by cases h; exact .num _
  | .text _, _, h => by cases h; exact .text _
  | .tup ks, _, h => by
    cases h with
    | tup at_ all => exact .tup (e _ _ at_) (KeyVs.same e ks _ all)
theorem KeyVs.same {H H' : Hp} (e : ∀ b o, H b = some o → H' b = some o) : ∀ (ks : List NestedKey) (vs : List V), KeyVs H ks vs → KeyVs H' ks vs
  | [], _, h => by cases h; exact .nil
  | k :: ks, _, h => by
    cases h with
    | cons one more => exact .cons (KeyV.same e k _ one) (KeyVs.same e ks _ more)
end
section
variable {X : Cx} {pins : List (Addr × Obj)} {σ : L2.St} {H : Hp} {s : Shared}
mutual
theorem key_is (I : L2.Inv X pins σ H s) : ∀ (k : NestedKey) (v : V) (u : Value), KeyV H k v → RelV v u → NestedIs s.heap k u
  | .none, _, u, h, r => by cases h; cases r; exact .none
  | .num i, _, u, h, r => by
    cases h
    obtain ⟨t, e⟩ := r
    subst e
    exact .int i t
  | .text x, _, u, h, r => by
    cases h
    obtain ⟨t, e⟩ := r
    subst e
    exact .text x t
  | .tup ks, _, u, h, r => by
    cases h with
    | tup at_ all =>
      cases r
      obtain ⟨_, its, rv, o, ho, hc, n, hd⟩ := I.hok _ _ at_
      exact .tup ho hc hd (by simpa using keys_is I ks _ _ all rv)
theorem keys_is (I : L2.Inv X pins σ H s) : ∀ (ks : List NestedKey) (vs : List V) (us : List Value), KeyVs H ks vs → Vals vs us → NestedAll s.heap ks us
  | [], _, us, h, r => by cases h; cases r; exact .nil
  | k :: ks, _, us, h, r => by
    cases h with
    | cons one more =>
      cases r with
      | cons r1 r2 => exact .cons (key_is I k _ _ one r1) (keys_is I ks _ _ more r2)
end
end
/-- entries: a key, where its tuple stands, a value -/
abbrev EntX : Type := NestedKey × Addr × V
def SameX (p : EntX) (q : NestedKey × Addr × Value) : Prop := p.1 = q.1 ∧ p.2.1 = q.2.1 ∧ RelV p.2.2 q.2.2
abbrev PairX : List EntX → List (NestedKey × Addr × Value) → Prop := Paired SameX
/-- the keys are where they are said to stand -/
def KeysX (H : Hp) (kvs : List EntX) : Prop := ∀ x ∈ kvs, KeyV H x.1 (.ref x.2.1) ∧ x.1.depth ≤ 8
theorem KeysX.same {H H' : Hp} {kvs : List EntX} (h : KeysX H kvs) (e : ∀ b o, H b = some o → H' b = some o) : KeysX H' kvs := fun x hx => ⟨KeyV.same e _ _ (h x hx).1, (h x hx).2⟩
structure DictX (P : Program) (w : World) (h : Heap) (a : Addr) (kvs : List EntX) : Prop where
  low : kvs.length ≤ sizeLine
  user : (a == sysModules) = false
  ex : ∃ vs, PairX kvs vs ∧ ∃ o es ep, h.get? a = some o ∧ o.ExactDict ∧ o.data = .dict es ep ∧ es.toList = vs.map (entryOfKey (nestedKind P w)) ∧ (vs.map (·.1)).Nodup
def DictXO (P : Program) (w : World) (a : Addr) (kvs : List EntX) : HO := .ext fun h => DictX P w h a kvs
def atX (kvs : List EntX) (k : NestedKey) : Option V := (kvs.find? fun x => decide (x.1 = k)).map (·.2.2)
def putX (kvs : List EntX) (k : NestedKey) (b : Addr) (v : V) : List EntX := if (atX kvs k).isSome then kvs.map fun x => if x.1 = k then (x.1, x.2.1, v) else x else kvs ++ [(k, b, v)]
theorem putX_len (kvs : List EntX) (k : NestedKey) (b : Addr) (v : V) : (putX kvs k b v).length ≤ kvs.length + 1 := by
  unfold putX
  split
  · rw [List.length_map]; omega
  · rw [List.length_append]; exact Nat.le_refl _
section
variable {P : Program} {w : World} {h : Heap} {a : Addr} {kvs : List EntX}
theorem DictX.stays {h' : Heap} (R : DictX P w h a kvs) (k : ∀ o, h.get? a = some o → h'.get? a = some o) : DictX P w h' a kvs := by
  obtain ⟨vs, r, o, es, ep, ho, more⟩ := R.ex
  exact ⟨R.low, R.user, vs, r, o, es, ep, k o ho, more⟩
theorem DictX.obj (R : DictX P w h a kvs) : ∃ o, h.get? a = some o ∧ o.dict = none := by
  obtain ⟨vs, r, o, es, ep, ho, ex, _⟩ := R.ex
  exact ⟨o, ho, ex.2.1⟩
theorem DictX.ty {s : Shared} (R : DictX P w s.heap a kvs) : s.TypeIs (.ref a) "dict" := by
  obtain ⟨vs, r, o, es, ep, ho, ex, _⟩ := R.ex
  exact ⟨o, ho, ex.1⟩
theorem ok_dictX {H : Hp} (R : DictX P w h a kvs) : ObjOk P w H h a (DictXO P w a kvs) := ⟨R, let ⟨o, ho, _⟩ := R.obj; ⟨o, ho⟩, fun _ _ p k => DictX.stays p k⟩
theorem new_dictX {H : Hp} (h : Heap) (big : sysModules < h.objs.size) : ObjOk P w H (h.push { cls := .type "dict", data := .dict #[] }) h.objs.size (DictXO P w h.objs.size []) :=
  ok_dictX ⟨Nat.zero_le _, beq_eq_false_iff_ne.mpr (Nat.ne_of_gt big), [], .nil, _, #[], 0, Heap.get?_push_size _ rfl, ⟨rfl, rfl, rfl⟩, rfl, rfl, List.nodup_nil⟩
end
theorem pair_at {kvs : List EntX} {vs : List (NestedKey × Addr × Value)} (r : PairX kvs vs) (k : NestedKey) : (atX kvs k).isSome = (atKey vs k).isSome := by
  induction r with
  | nil => rfl
  | cons one more ih =>
    rename_i p q ps qs
    unfold atX atKey at ih ⊢
    rw [List.find?_cons, List.find?_cons, ← one.1]
    cases decide (p.1 = k) with
    | true => rfl
    | false => exact ih
theorem pair_map {kvs : List EntX} {vs : List (NestedKey × Addr × Value)} (r : PairX kvs vs) {k : NestedKey} {v : V} {u : Value} (rv : RelV v u) : PairX (kvs.map fun x => if x.1 = k then (x.1, x.2.1, v) else x) (vs.map (putAt k u)) := by
  induction r with
  | nil => exact .nil
  | cons one more ih =>
    rename_i p q ps qs
    refine .cons ?_ ih
    unfold putAt
    show SameX (if p.1 = k then (p.1, p.2.1, v) else p) _
    by_cases c : p.1 = k
    · rw [if_pos c, if_pos (one.1 ▸ c)]
      exact ⟨one.1, one.2.1, rv⟩
    · rw [if_neg c, if_neg (one.1 ▸ c)]
      exact one
theorem pair_snoc {kvs : List EntX} {vs : List (NestedKey × Addr × Value)} (r : PairX kvs vs) {x : EntX} {y : NestedKey × Addr × Value} (o : SameX x y) : PairX (kvs ++ [x]) (vs ++ [y]) := by
  induction r with
  | nil => exact .cons o .nil
  | cons one more ih => exact .cons one ih
theorem pair_put {kvs : List EntX} {vs : List (NestedKey × Addr × Value)} (r : PairX kvs vs) {k : NestedKey} {b : Addr} {v : V} {u : Value} (rv : RelV v u) : PairX (putX kvs k b v) (storedH vs k b u) := by
  unfold putX storedH
  rw [pair_at r k]
  split
  · exact pair_map r rv
  · exact pair_snoc r ⟨rfl, rfl, rv⟩
theorem pair_mem {kvs : List EntX} {vs : List (NestedKey × Addr × Value)} (r : PairX kvs vs) : ∀ y ∈ vs, ∃ x ∈ kvs, SameX x y := by
  induction r with
  | nil => intro y hy; cases hy
  | cons one more ih =>
    intro y hy
    rcases List.mem_cons.mp hy with e | hy
    · exact ⟨_, List.mem_cons_self, e ▸ one⟩
    · obtain ⟨x, hx, o⟩ := ih y hy
      exact ⟨x, List.mem_cons_of_mem _ hx, o⟩
section
variable {X : Cx} {pins : List (Addr × Obj)} {σ : L2.St} {H : Hp} {s : Shared} {a : Addr} {kvs : List EntX}
theorem dx_of (I : L2.Inv X pins σ H s) (e : Rd H a (DictXO X.prog X.w a kvs)) : DictX X.prog X.w s.heap a kvs := (rd_of I.hok e).1
theorem dx_dict (I : L2.Inv X pins σ H s) (e : Rd H a (DictXO X.prog X.w a kvs)) (keys : KeysX H kvs) : ∃ vs, PairX kvs vs ∧ s.heap.DictOfH (nestedKind X.prog X.w) a vs := by
  obtain ⟨vs, r, o, es, ep, ho, ex, hd, he, nd⟩ := (dx_of I e).ex
  refine ⟨vs, r, o, es, ep, ho, ex, hd, he, fun y hy => ?_, nd⟩
  obtain ⟨x, hx, same⟩ := pair_mem r y hy
  have z := keys x hx
  rw [← same.1, ← same.2.1]
  exact ⟨key_is I _ _ _ z.1 rfl, z.2⟩
end
def rInX (P : Program) (w : World) (neg : Bool) : V → V → Hp → VK → Prop := fun x y H Q => ∃ (b a : Addr) (k : NestedKey) (kvs : List EntX), x = .ref b ∧ y = .ref a ∧ KeyV H k (.ref b) ∧ k.depth ≤ 8 ∧ Rd H a (DictXO P w a kvs) ∧ KeysX H kvs ∧
  Q (.bl (if neg = true then !(atX kvs k).isSome else (atX kvs k).isSome)) H
def sPutX (P : Program) (w : World) (td ty tv : TE) : TS := fun D σ H => tv σ H fun v H1 => td σ H1 fun x H2 => ty σ H2 fun y H3 => ∃ (a b : Addr) (kvs : List EntX) (k : NestedKey), x = .ref a ∧ y = .ref b ∧ KeyV H3 k (.ref b) ∧ k.depth ≤ 8 ∧ H3 a = some (DictXO P w a kvs) ∧ KeysX H3 kvs ∧ kvs.length < sizeLine ∧
  D.nx σ (upd H3 a (DictXO P w a (putX kvs k b v)))
section
variable {X : Cx} {d i v : Expr} {td ty tv : TE} {pos pos' : Pos}
theorem room_x (hu : X.A.units + 64 < cLine) : (nestedKind X.prog X.w).room X.A.in1 := by
  show X.A.in1.units + 8 < cLine
  have : X.A.in1.units = X.A.units + 1 := rfl
  omega
theorem op_inX (hu : X.A.units + 64 < cLine) : OpR X (compareOp .In) (rInX X.prog X.w false) := by
  intro pins s σ H x y v u Q I rx ry h
  obtain ⟨b, a, k, kvs, rfl, rfl, hk, deep, at_, keys, q⟩ := h
  cases rx
  cases ry
  obtain ⟨vs, r, dd⟩ := dx_dict I at_ keys
  refine wpAny_in_heap (room_x hu) ⟨key_is I _ _ _ hk rfl, deep⟩ (dx_of I at_).user dd (show EP X pins σ Q _ _ from ⟨.bl (atX kvs k).isSome, H, I.tok _, ?_, q⟩)
  rw [pair_at r]; rfl
theorem op_notInX (hu : X.A.units + 64 < cLine) : OpR X (compareOp .NotIn) (rInX X.prog X.w true) := by
  intro pins s σ H x y v u Q I rx ry h
  obtain ⟨b, a, k, kvs, rfl, rfl, hk, deep, at_, keys, q⟩ := h
  cases rx
  cases ry
  obtain ⟨vs, r, dd⟩ := dx_dict I at_ keys
  refine wpAny_bind (wpAny_contains_heap (room_x hu) ⟨key_is I _ _ _ hk rfl, deep⟩ (dx_of I at_).user dd (wpAny_pure (show EP X pins σ Q _ _ from ⟨.bl !(atX kvs k).isSome, H, I.tok _, ?_, q⟩)))
  rw [pair_at r]; rfl
theorem ps_putX (hu : X.A.units + 64 < cLine) (hd : PE X d td) (hi : PE X i ty) (hv : PE X v tv) (sw : swapsWith v (some (.Subscript d i pos')) pos.line X.env = pure false) : PS X (.Assign [.Subscript d i pos'] v pos) (sPutX X.prog X.w td ty tv) := by
  constructor
  intro pins s σ H D I h
  refine wpAny_Assign_Subscript (thn (hv.run pins s σ H _ I h) fun r0 s0 ⟨z, H0, I0, rz, h0⟩ => thn (hd.run pins s0 σ H0 _ I0 h0) fun r1 s1 ⟨x, H1, I1, rx, h1⟩ => thn (hi.run pins s1 σ H1 _ I1 h1) fun r2 s2 ⟨y, H2, I2, ry, a, b, kvs, k, ex, ey, hk, deep, at_, keys, room, q⟩ => ?_) sw
  subst ex ey
  cases rx
  cases ry
  obtain ⟨vs, r, dd⟩ := dx_dict I2 (.inl at_) keys
  have low := (dx_of I2 (.inl at_)).low
  have user := (dx_of I2 (.inl at_)).user
  refine wpAny_setItem_heap (hsz := by rw [← r.length]; exact low) (room_x hu) ⟨key_is I2 _ _ _ hk rfl, deep⟩ dd fun h' d' sb => ?_
  have few := putX_len kvs k b z
  obtain ⟨o, es, ep, ho, ex, hd', he, _, nd⟩ := d'
  have R' : DictX X.prog X.w h' a (putX kvs k b z) := ⟨by omega, user, _, pair_put r rz, o, es, ep, ho, ex, hd', he, nd⟩
  exact ⟨σ, _, d_write I2 (by rw [at_]; exact True.intro) sb ⟨o, ho⟩ (ok_dictX R'), q⟩
end
end MX
end
section
/-! Dicts with nested keys: written out with one entry, by a comprehension, their keys gone through. -/
namespace MX
open PySem PySem.Spec PyProof.Rows L2 PySem.W
/-! ### {k: v} -/
def tDispX (P : Program) (w : World) (trs : List (TE × TE)) : TE := fun σ H Q => ∀ p, H p = none → tPairs trs σ (upd H p (DictXO P w p [])) fun ps H2 => H2 p = some (DictXO P w p []) ∧
  ∃ (b : Addr) (k : NestedKey) (v : V), ps = [(.ref b, v)] ∧ KeyV H2 k (.ref b) ∧ k.depth ≤ 8 ∧ Q (.ref p) (upd H2 p (DictXO P w p [(k, b, v)]))
section
variable {X : Cx} {pos : Pos} {keys : List (Option Expr)} {values : List Expr} {trs : List (TE × TE)}
theorem pe_dispX (hu : X.A.units + 64 < cLine) (h : PPs X pos keys values trs) (told : keys.all (·.isSome) = true) (alike : keys.length = values.length) (some_ : keys ≠ []) (few : keys.length ≤ 15) : PE X (.Dict keys values pos) (tDispX X.prog X.w trs) := by
  constructor
  intro pins s σ H Q I q
  have size := pairTrees_length keys values X.env pos told alike
  have fresh := I.hok.fresh (Nat.le_refl s.heap.objs.size)
  have I1 : L2.Inv X pins σ (upd H s.heap.objs.size (DictXO X.prog X.w s.heap.objs.size [])) { s with heap := s.heap.push { cls := .type "dict", data := .dict #[] } } :=
    I.laid (t' := s.toks) (fun _ _ z => Heap.get?_push_of_some _ z) (Nat.le_refl _) (new_dictX s.heap I.big)
  rw [arm_eval_Dict, zip_pairTrees keys values X.env pos told alike, dictDisplay_pairs _ (fun z => some_ (List.length_eq_zero_iff.mp (by rw [← size, z]; rfl))) (by rw [size]; omega)]
  refine wpAny_bind (wpAny_standAt (wpAny_bind (wpAny_subDictH (knd := nestedKind X.prog X.w) (Q := fun d s' => wpAny (model X.prog X.w) X.A (pure (Value.ref d)) (EP X pins σ Q) X.xe s') (show X.A.units + 8 < cLine by omega) (by rw [size]; exact few) ?_)))
  refine thn (h.run pins _ σ _ _ I1 (q _ fresh)) fun ws s2 ⟨ps, H2, I2, rel, e, b, k, v, ep, hk, deep, q2⟩ => ?_
  subst ep
  obtain ⟨y, rfl, r1, r2⟩ : ∃ y, ws = [y] ∧ RelV (.ref b) y.1 ∧ RelV v y.2 := by
    cases rel with
    | cons one more =>
      cases more
      exact ⟨_, rfl, one⟩
  obtain ⟨y1, y2⟩ := y
  obtain rfl : y1 = .ref b := r1
  obtain ⟨vs, r, dd⟩ := dx_dict I2 (.inl e) (fun x hx => nomatch hx)
  cases r
  refine ⟨[(k, b, y2)], ⟨rfl, rfl, ⟨key_is I2 _ _ _ hk rfl, deep⟩, True.intro⟩, dd, fun h' tk d' sb => wpAny_pure ⟨.ref s.heap.objs.size, _, ?_, rfl, q2⟩⟩
  obtain ⟨o, es, ep, ho, ex, hd', he, _, nd⟩ := d'
  have R' : DictX X.prog X.w h' s.heap.objs.size [(k, b, v)] := ⟨by show 1 ≤ sizeLine; decide, (dx_of I2 (.inl e)).user, [(k, b, y2)], .cons ⟨rfl, rfl, r2⟩ .nil, o, es, ep, ho, ex, hd', he, nd⟩
  exact d_write I2 (by rw [e]; exact True.intro) sb ⟨o, ho⟩ (ok_dictX R')
end
/-! ### for k in d, the dict locked -/
def ItX (P : Program) (w : World) (d : Addr) (o : Obj) (kvs : List EntX) : It where
  go i H := H d = some (.frz o (DictXO P w d kvs)) ∧ i < kvs.length
  yld i H x H' := H' = H ∧ ∃ y, kvs[i]? = some y ∧ x = .ref y.2.1
  stop i H := H d = some (.frz o (DictXO P w d kvs)) ∧ kvs.length ≤ i
def iKeysX (P : Program) (w : World) (td : TE) : TI := fun σ H R => td σ H fun x H1 => ∃ (d : Addr) (o : Obj) (kvs : List EntX), x = .ref d ∧ H1 d = some (.frz o (DictXO P w d kvs)) ∧ R (ItX P w d o kvs) H1
theorem walk_keysX {P : Program} {w : World} {d : Addr} {o : Obj} {kvs : List EntX} : L2.Walk (ItX P w d o kvs) kvs.length (fun (H : Hp) => H d = some (.frz o (DictXO P w d kvs))) (fun i (H : Hp) x (H' : Hp) => H' = H ∧ ∃ y, kvs[i]? = some y ∧ x = V.ref y.2.1) :=
  ⟨fun _ _ lt at_ => And.intro at_ lt, fun _ at_ => And.intro at_ (Nat.le_refl _), fun _ _ _ _ _ _ told => told⟩
theorem pair_get {kvs : List EntX} {vs : List (NestedKey × Addr × Value)} (r : PairX kvs vs) : ∀ {i : Nat} {x : EntX}, kvs[i]? = some x → ∃ y, vs[i]? = some y ∧ SameX x y := by
  induction r with
  | nil => intro i x h; cases h
  | cons one more ih =>
    intro i x h
    cases i with
    | zero => cases h; exact ⟨_, rfl, one⟩
    | succ i => exact ih h
section
variable {X : Cx} {pins : List (Addr × Obj)} {σ : L2.St} {H : Hp} {s : Shared} {d : Addr} {o : Obj} {kvs : List EntX}
theorem lockedX (I : L2.Inv X pins σ H s) (e : H d = some (.frz o (DictXO X.prog X.w d kvs))) : (d == sysModules) = false ∧ s.heap.get? d = some o ∧ o.ExactDict ∧ ∃ es ep, o.data = .dict es ep ∧ es.size = kvs.length ∧ ∀ (i : Nat) (x : EntX), kvs[i]? = some x → ∃ en, es[i]? = some en ∧ en.key = .ref x.2.1 := by
  obtain ⟨ho, R, _⟩ := I.hok d _ e
  obtain ⟨vs, r, o', es, ep, ho', ex, hd, he, _⟩ := DictX.ex R
  obtain rfl : o = o' := by rw [ho] at ho'; exact Option.some.inj ho'
  have size : es.size = kvs.length := by rw [size_of_entries he, r.length]
  refine ⟨DictX.user R, ho, ex, es, ep, hd, size, fun i x hx => ?_⟩
  obtain ⟨y, hy, same⟩ := pair_get r hx
  refine ⟨_, by rw [entry_at he, hy]; rfl, ?_⟩
  show Value.ref y.2.1 = _
  rw [← same.2.1]
end
theorem turn_keysX {P : Program} {w : World} {K : PySem.W.Frag} {tg : Expr} {d : Addr} {o : Obj} {kvs : List EntX} {es : Array DictEntry} {ep : Nat} (it : Addr) (data : o.data = .dict es ep) :
    Turn P w K tg (ItX P w d o kvs) [it] it (fun i h => h.IsKeyIter it d i kvs.length ep) := by
  have only : ∀ {b : Addr}, b ∈ [it] → b = it := fun h => by simpa using h
  refine { mem := List.mem_cons_self, obj := ?obj, keep := ?keep, item := ?item, done := ?done, self := ?self }
  case obj =>
    rintro i h ⟨oi, e, c, dd⟩ b hb
    rw [only hb]
    refine ⟨oi, e, fun v seq => ?_⟩
    rw [dd] at seq; cases seq
  case keep => exact fun i h h' z k => z.at fun oi e => k it List.mem_cons_self oi e
  case item =>
    rintro X rfl rfl rfl calm i pins s σ H E I free z ⟨at_, lt⟩
    obtain ⟨user, hgd, ex, es', ep', data', size, ent⟩ := lockedX I at_
    obtain ⟨rfl, rfl⟩ := dict_ep data data'
    obtain ⟨en, hen, hkey⟩ := ent i _ (List.getElem?_eq_getElem lt)
    obtain ⟨none_, loc, frame, young, cells, pinned⟩ := free it List.mem_cons_self
    refine next_key_item z hgd data' size hen fun h' z' sb => ?_
    have I1 : L2.Inv X pins σ H { s with heap := h' } := I.turned (t' := s.toks) (fun b ob ne e => (sb.2 b ne).trans e) none_ loc young cells pinned
    obtain ⟨oi, e, c, dd⟩ := id z'
    exact ⟨en.key, rfl, go_of (s := { s with heap := h' }) e c dd (by decide) ⟨.ref kvs[i].2.1, H, I1, hkey, ⟨rfl, _, List.getElem?_eq_getElem lt, rfl⟩, z', fun b hb => (free b hb).1⟩⟩
  case done =>
    rintro X rfl rfl rfl calm i pins s σ H E I free z ⟨at_, le⟩
    obtain ⟨user, hgd, ex, es', ep', data', size, ent⟩ := lockedX I at_
    obtain ⟨rfl, rfl⟩ := dict_ep data data'
    obtain ⟨none_, loc, frame, young, cells, pinned⟩ := free it List.mem_cons_self
    exact next_key_end (I.ok.hd calm) z hgd data' size le fun h' eb => ⟨rfl, I.turned (t' := s.toks) (fun b ob ne e => eb b ob ne e) none_ loc young cells pinned⟩
  case self =>
    intro A i s Q E z h
    refine wpAny_pyIter_slot z.typeIs F.slot_dict_keyiterator_iter (wpAny_call_entry F.slot_dict_keyiterator_iter z.typeIs F.entry_dict_keyiterator_iter ?_ (F.args_dict_keyiterator_iter_1 _))
    show wpAny _ _ (ret (.ref it)) _ _ s
    exact wpAny_pure ⟨_, rfl, "dict_keyiterator", _, z.typeIs, F.slot_dict_keyiterator_next.lookup, h⟩
theorem pi_keysX {X : Cx} {tg e : Expr} {td : TE} (he : PE X e td) : PI X tg e (iKeysX X.prog X.w td) := by
  constructor
  intro pins s σ H R I h
  refine thn (he.run pins s σ H _ I h) fun u s1 ⟨x, H1, I1, rx, d, o, kvs, ex, at_, q⟩ => ?_
  subst ex
  cases rx
  obtain ⟨user, hgd, exact_, es, ep, data, size, ent⟩ := lockedX I1 at_
  refine iter_keys user hgd exact_ data (pi_one (tk := s1.toks) I1 _ (turn_keysX _ data) ⟨_, Heap.get?_push_size _ rfl, rfl, ?_⟩ q)
  rw [size] <;> rfl
/-! ### {k: v for .. in ..} -/
def tDcX (P : Program) (w : World) (wi : TI) (g : TG) (tt : TT) (tk tv : TE) (vs : List Nat) : TE :=
  tGather (fun D => DictXO P w D []) (fun D σ H Nx => tk σ H fun y H4 => tv σ H4 fun z H5 => ∃ (b : Addr) (kvs : List EntX) (k : NestedKey), y = .ref b ∧ KeyV H5 k (.ref b) ∧ k.depth ≤ 8 ∧ H5 D = some (DictXO P w D kvs) ∧ KeysX H5 kvs ∧ kvs.length < sizeLine ∧ Nx (upd H5 D (DictXO P w D (putX kvs k b z)))) wi g tt vs
section
variable {X : Cx} {pins : List (Addr × Obj)} {σ : L2.St} {H : Hp} {s : Shared}
theorem dx_put {a b : Addr} {kvs : List EntX} {k : NestedKey} {v : V} {u r : Value} {E : Value → Shared → Prop} {A : Around} {Q : Unit → Shared → Prop} (hu : A.units + 8 < cLine) (I : L2.Inv X pins σ H s) (at_ : H a = some (DictXO X.prog X.w a kvs)) (keys : KeysX H kvs) (room : kvs.length < sizeLine)
    (hk : KeyV H k (.ref b)) (deep : k.depth ≤ 8) (ru : RelV (.ref b) u) (rv : RelV v r) (q : ∀ s', L2.Inv X pins σ (upd H a (DictXO X.prog X.w a (putX kvs k b v))) s' → Q () s') : wpAny (model X.prog X.w) A (dictSet a u r) Q E s := by
  cases ru
  obtain ⟨vs, rel, dd⟩ := dx_dict I (.inl at_) keys
  have low := (dx_of I (.inl at_)).low
  have user := (dx_of I (.inl at_)).user
  have few := putX_len kvs k b v
  refine wpAny_dictSet_heap (hsz := by rw [← rel.length]; exact low) (knd := nestedKind X.prog X.w) hu ⟨key_is I _ _ _ hk rfl, deep⟩ dd fun h' d' sb => q _ ?_
  obtain ⟨o, es, ep, ho, ex, hd', he, _, nd⟩ := d'
  have R' : DictX X.prog X.w h' a (putX kvs k b v) := ⟨by omega, user, _, pair_put rel rv, o, es, ep, ho, ex, hd', he, nd⟩
  exact d_write I (by rw [at_]; exact True.intro) sb ⟨o, ho⟩ (ok_dictX R')
end
end MX
end
section
/-! A dict comprehension whose keys are nested tuples; setdefault, get of such dicts. -/
namespace MX
open PySem PySem.Spec PyProof.Rows L2 PySem.W
/-- in, not in, within a block -/
theorem op_inXK {X : Cx} {P : Program} {w : World} (eP : X.prog = P) (ew : X.w = w) (hu : X.A.units + 64 < cLine) : OpR X (compareOp .In) (rInX P w false) := by
  subst eP ew
  exact op_inX hu
theorem op_notInXK {X : Cx} {P : Program} {w : World} (eP : X.prog = P) (ew : X.w = w) (hu : X.A.units + 64 < cLine) : OpR X (compareOp .NotIn) (rInX P w true) := by
  subst eP ew
  exact op_notInX hu
section
variable {X : Cx}
theorem pe_dcX {kx vx tg iter : Expr} {ifs : List Expr} {scope : Scope} {own : List (PySem.Str × Nat)} {pos : Pos} {wi : TI} {g : TG} {tt : TT} {tk tv : TE} (hu : X.A.units + 64 < cLine) (hc : X.calm = true) (hN : X.N.Nodup) (hi : PI X tg iter wi) (ok : BlkOk X.N X.env.scope scope own)
    (hg : ∀ (s : Shared) (H : Hp) (C : Addr) (cl : List (PySem.Str × Addr)) (fp : List Addr), PG (X.blk s H scope (compEnvC scope cl C X.env) fp) tg g) (ht : ∀ (s : Shared) (H : Hp) (C : Addr) (cl : List (PySem.Str × Addr)) (fp : List Addr), PTs (X.blk s H scope (compEnvC scope cl C X.env) fp) ifs tt)
    (hk : ∀ (s : Shared) (H : Hp) (C : Addr) (cl : List (PySem.Str × Addr)) (fp : List Addr), PE (X.blk s H scope (compEnvC scope cl C X.env) fp) kx tk)
    (he : ∀ (s : Shared) (H : Hp) (C : Addr) (cl : List (PySem.Str × Addr)) (fp : List Addr), PE (X.blk s H scope (compEnvC scope cl C X.env) fp) vx tv) (hs : ∀ x, foldedSetIterable iter X.env x = pure x := by intro _; rfl) :
    PE X (.DictComp kx vx [⟨tg, iter, ifs, 0⟩] scope pos) (tDcX X.prog X.w wi g tt tk tv (own.map (·.2))) := by
  constructor
  intro pins s σ H Q I h
  rw [arm_eval_DictComp]
  refine gather (o0 := { cls := .type "dict", data := .dict #[] }) hc hN I hi ok rfl (fun s Q q => wpAny_newObj_type q) (fun s H I' => new_dictX s.heap I'.big) hg ht ?_ (fun it acc ce R s4 a b => codeAny_compStart_dict a b) hs h ?_
  · intro s3 H3 C cl fp it D Iv R turns n s4 i4
    refine compLoop_anyD Iv (fun n s5 i5 => thnF (turns n s5 i5) fun r s6 h6 => ?_) n i4
    cases r with
    | none => exact h6
    | some v =>
      refine thnF h6 fun _ s7 h7 => thnF h7 fun _ s8 h8 => thnF h8 fun b s9 ⟨pl, σ9, H9, Nx, I9, q9, next⟩ => ?_
      cases b with
      | false => exact next s9 H9 I9 q9
      | true =>
        refine thnF ((hk s3 H3 C cl fp).run pl s9 σ9 H9 _ I9 q9) fun z s10 ⟨y, H10, I10, r10, q10⟩ => ?_
        refine thnF ((he s3 H3 C cl fp).run pl s10 σ9 H10 _ I10 q10) fun z2 s11 ⟨y2, H11, I11, r11, b, kvs, k, ey, hk', deep, atD, keys, room, nx⟩ => ?_
        subst ey
        exact dx_put (X := X.blk s3 H3 scope (compEnvC scope cl C X.env) fp) (show X.A.units + 8 < cLine by omega) I11 atD keys room hk' deep r10 r11 fun s12 I12 => next s12 _ I12 nx
  · exact fun D C s' m H' I' q ns f => block_gone I' q ns f
end
end MX
end
section
/-! A dict that a loop's head makes is locked there; the list of a dict's values. -/
namespace DV
open PySem PySem.Spec PyProof.Rows L2
def tLockV (t : TE) : TE := fun σ H Q => t σ H fun x H1 => ∃ d u, x = .ref d ∧ H1 d = some u ∧ Mut (some u) ∧ ∀ od, Q x (upd H1 d (.frz od u))
def tVals (te : TE) : TE := fun σ H Q => te σ H fun x H1 => ∃ (d : Addr) (kvs : List (Key × V)), x = .ref d ∧ H1 d = some (.dK kvs) ∧ ∀ p, H1 p = none → Q (.ref p) (upd H1 p (.lst (kvs.map (·.2))))
theorem vals_of : ∀ {kvs : List (Key × V)} {vs : List (Key × Value)}, KV kvs vs → Vals (kvs.map (·.2)) (vs.map (·.2))
  | _, _, .nil => .nil
  | _, _, .cons h t => .cons h.2 (vals_of t)
section
variable {X : Cx} {e : Expr} {t : TE} {p apos cpos pos : Pos}
theorem pe_lockV (h : PE X e t) : PE X e (tLockV t) := by
  refine ⟨fun pins s σ H Q I q => thn (h.run pins s σ H _ I q) fun v s1 ⟨x, H1, I1, r, d, u, ex, hd, mu, go⟩ => ?_⟩
  obtain ⟨od, I2⟩ := I1.lock hd mu
  exact ⟨x, _, I2, r, go od⟩
theorem pe_listVals (calm : X.calm = true) (g : Gl X "list") (m : X.mg "list" = none) (b : bootBuiltins "list" = some (.type "list")) (h : PE X e t)
    (base : attributeBase e "values" X.env (eval e X.env) = eval e X.env := by rfl) (line : (apos.endLine == cpos.line) = true := by rfl)
    (star : starEach [.Call (.Attribute e "values" apos) [] [] cpos] X.env = (false, eval (.Call (.Attribute e "values" apos) [] [] cpos) X.env) :: starEach [] X.env := by rfl) :
    PE X (.Call (.Name "list" p) [.Call (.Attribute e "values" apos) [] [] cpos] [] pos) (tVals t) := by
  constructor
  intro pins s σ H Q I q
  refine wpAny_Call_Name_kw (ld_blt I g m b (callWith_type1 ?_ star rfl))
  rw [star]
  show wpAny _ _ (spliced (_ :: backTo pos (starEach [] X.env))) _ _ s
  apply Calls.spliced_cons
  refine wpAny_Call_method (T := "dict") (id := "dict.values") base rfl line F.plainAttrs_dict F.slot_dict_values F.type_dict_values (thn (h.run pins s σ H _ I q) fun u s1 z => ?_)
  obtain ⟨x, H1, I1, r, d, kvs, ex, at_, go⟩ := z
  subst ex
  cases (show u = Value.ref d from r)
  have ok := I1.hok d _ at_
  obtain ⟨few, sys, vs, kv, dict⟩ := id ok
  obtain ⟨ep, whole⟩ := dict.dictAt
  have len : kvs.length = vs.length := Paired.length kv
  refine ⟨dict.typeIs, dict.mapOf.noDict, ?_⟩
  show wpAny _ _ (callWith cpos (.builtin "dict.values") [.ref d] [] []) _ X.xe s1
  apply method_meetsIn F.slot_dict_values F.entry_dict_values rfl
  refine PySem.evalArgs_none ⟨rfl, dict.typeIs, F.args_dict_values_1 _, _, meets_dict_values (mixKind X.prog X.w) d sys, ⟨vs, dict⟩, Calls.spliced_nil ?_⟩
  have view : Inv X pins σ H1 { s1 with heap := s1.heap.push { cls := .type "dict_values", data := .fields #[.ref d] } } := I1.kept (t' := s1.toks) fun _ _ => Heap.get?_push_of_some _
  refine PySem.W.kdl_call (PySem.W.kdl_values (knd := mixKind X.prog X.w) (kvs := vs) (ep := ep)) (I1.ok.hd calm) ⟨⟨_, Heap.get?_push_size _ rfl, rfl, rfl⟩, whole.push _⟩ (by omega) fun h' tk acc c keep new items => ?_
  have list : acc.toList = vs.map (·.2) := PySem.W.kdl_vals_eq _ (by rw [Array.length_toList]; exact items.1) fun j v ev => items.2 j v (by rw [← Array.getElem?_toList]; exact ev)
  refine ⟨.ref _, _, view.laid (t' := tk) (o := .lst (kvs.map (·.2))) keep (Nat.le_refl _) ⟨by rw [List.length_map]; exact few, acc.toList, c, by rw [list]; exact vals_of kv, by rw [Array.toArray_toList]; exact new⟩, rfl, go _ (view.hok.fresh (Nat.le_refl _))⟩
end
end DV
end
section
/-! Outlook.words_at. -/
namespace K1
open PySem L2
open MX (Rise Up)
/-- the words that are shown at some states -/
def WordsAt (ts : List Stp) (ns : List Int) (x : Str) : Prop := ∃ t ∈ ts, t.s = x ∧ x ≠ Str.ofString "" ∧ t.a ∈ ns
def spWordsAt (CO : Addr) : Sp := fun vs H Q _ => ∃ (p a : Addr) (many : Int) (ts : List Stp) (ns : List Int), vs = [.ref p, .ref a] ∧ OutAt CO H p many ts ∧ (∀ t ∈ ts, OkS many t) ∧ ts.length < 64 ∧ many < 60 ∧ H a = some (.tup (ns.map V.int)) ∧ ns.Nodup ∧ InR many ns ∧
  ∀ (H' : Hp) (L : Addr) (ks : List Str), Same H H' → H L = none → H' L = some (.lst (ks.map V.str)) → Up (ks.map Sum.inr) → (∀ x, x ∈ ks ↔ WordsAt ts ns x) → Q (.ref L) H'
structure TxtWa (K : PySem.W.Frag) (mg : Str → Option Value) (CO : Addr) : Prop where
  cl_Outlook : Cls K CO
  n_by_word : NoAttr K CO "by_word"
  sorted : mg "sorted" = none
/-- a set, by a list of what is in it -/
structure SetL (S : Key → Bool) (n : Nat) (L : List Key) : Prop where
  mem : ∀ k, S k = true ↔ k ∈ L
  once : L.Nodup
  size : n = L.length
theorem SetL.add {S : Key → Bool} {n : Nat} {L : List Key} (h : SetL S n L) (k : Key) : SetL (fun j => S j || decide (j = k)) (if S k = true then n else n + 1) (if S k = true then L else L ++ [k]) := by
  by_cases c : k ∈ L
  · have e := (h.mem k).mpr c
    rw [if_pos e, if_pos e]
    refine ⟨fun j => ?_, h.once, h.size⟩
    rw [Bool.or_eq_true, h.mem, decide_eq_true_iff]
    exact ⟨fun z => z.elim id fun q => q ▸ c, .inl⟩
  · have e : ¬ S k = true := fun z => c ((h.mem k).mp z)
    rw [if_neg e, if_neg e]
    refine ⟨fun j => ?_, List.nodup_append.mpr ⟨h.once, by simp, fun a ha b hb q => ?_⟩, by rw [List.length_append, h.size]; rfl⟩
    · rw [Bool.or_eq_true, h.mem, decide_eq_true_iff, List.mem_append, List.mem_singleton]
    · rw [List.mem_singleton.mp hb] at q
      exact c (q ▸ ha)
theorem SetL.none : SetL (fun _ => false) 0 [] := ⟨fun k => by simp, List.nodup_nil, rfl⟩
theorem words_of {M : List Key} (up : Up M) (h : ∀ k ∈ M, ∃ n, k = .inr n) : ∃ nm : List Str, M = nm.map Sum.inr := by
  clear up
  induction M with
  | nil => exact ⟨[], rfl⟩
  | cons k M ih =>
    obtain ⟨n, rfl⟩ := h k List.mem_cons_self
    obtain ⟨nm, rfl⟩ := ih fun x hx => h x (List.mem_cons_of_mem _ hx)
    exact ⟨n :: nm, rfl⟩
/-- the set of the words found so far: those that p tells -/
def Found (P : Program) (w : World) (H : Hp) (D : Addr) (p : Str → Prop) : Prop := ∃ (S : Key → Bool) (n : Nat) (L : List Key), H D = some (MX.SetQO P w D S n) ∧ SetL S n L ∧ (∀ k ∈ L, ∃ x, k = .inr x ∧ p x) ∧ ∀ x, p x → (.inr x : Key) ∈ L
section
variable {P : Program} {w : World} {K : PySem.W.Frag} {mg : Str → Option Value} {base : Heap}
abbrev sWa : Stmt := inClass (top 18) 2
abbrev nWa : List Str := ["self", "states", "word", "state"]
theorem scWa : FnScope nWa ["self", "states"] (defScope sWa) := ⟨rfl, rfl, rfl, by decide +kernel, rfl, by decide +kernel, by decide +kernel⟩
set_option maxHeartbeats 1000000 in
theorem ok_wa {f CO : Addr} {fd : FuncData} (F : Fun K "words_at" "Outlook.words_at" sWa f fd) (T : TxtWa K mg CO) : FnOk P w K mg base CX0 2 f fd ["self", "states"] (spWordsAt CO) := by
  refine F.ok scWa (fun vs H Q E h => ?_) (fun cdv A outer s H vs Q E hr h => ?_)
  · obtain ⟨p, a, many, ts, ns, rfl, _⟩ := h
    rfl
  · obtain ⟨p, a, many, ts, ns, rfl, O, oks, few, m2, ha, ndn, inr, k⟩ := h
    have nd := scWa.nd
    have hu1 := hu_of hr
    have hu := hr.units
    refine ⟨_, (pss_one (ps_ret (pe_callB (MX.cr_sortedQ rfl hu) (by rfl) T.sorted (by decide +kernel) (pa_cons (MX.pe_setQ2 (own := [("state", 3), ("word", 2)]) (vs1 := [2]) (by rfl) nd (pi_tup (pv 1)) (blkOk_by (N := nWa) (sc := defScope sWa) (by decide +kernel)) (by decide) (fun _ _ _ _ _ => (pg_name (i := 3) nd rfl (Or.inl rfl))) (fun _ _ _ _ _ => pts_nil) (fun _ _ _ _ _ => pi_keys (DV.pe_lockV (pe_ix (ix_listK (K := K) rfl) (pe_fldK (K := K) rfl (pv 0) rfl) (pv 3) (fun _ _ => rfl)))) (fun _ _ _ _ _ => (pg_name (i := 2) nd rfl (Or.inl rfl))) (fun _ _ _ _ _ => pts_nil) (fun _ _ _ _ _ => (pv 2))) pa_nil)))), ?_⟩
    obtain ⟨dx, uA, wA, rows, ds, hp, hU, hW, lenU, lenW, liU, diW, done, Y⟩ := id O
    refine ⟨_, rfl, a, rfl, ⟨_, .inl (.inl ha)⟩, fun D hD => ?_⟩
    refine walk_tup (K := K) (a := a) (xs := ns.map V.int) (fun i H' => Same H H' ∧ Found P w H' D (WordsAt ts (ns.take i))) ⟨same_new hD, _, 0, [], upd_same, .none, (fun k h => nomatch h), fun x ⟨t, _, _, _, m⟩ => by rw [List.take_zero] at m; cases m⟩ (fun i H' _ z => .inl (.inl (z.1 _ _ ha))) ?_ ?_
    · rintro i x H1 hx ⟨e1, F1⟩
      obtain ⟨st, hst, rfl⟩ : ∃ g, ns[i]? = some g ∧ x = V.int g := by
        rw [List.getElem?_map] at hx
        cases e : ns[i]? with
        | none => rw [e] at hx; cases hx
        | some g => rw [e] at hx; exact ⟨g, rfl, (Option.some.inj hx).symm⟩
      have hst2 := inr st (List.mem_of_getElem? hst)
      obtain ⟨d, hr1, hr2⟩ := ref_at (rows := ds) hst2.1 (by have := hst2.2; omega)
      obtain ⟨kvs, hd, okd⟩ := diW d (List.mem_of_getElem? hr1)
      have hd1 := e1 _ _ hd
      have nDd : D ≠ d := fun z => by rw [z, hd] at hD; cases hD
      refine ⟨rfl, fun Lk lk => ⟨_, rfl, p, CO, dx, _, _, rfl, e1 _ _ hp, T.cl_Outlook, T.n_by_word, lk_word, _, rfl, wA, _, _, _, rfl, rfl, SqL.of (e1 _ _ hW), hr2, d, _, rfl, hd1, True.intro, fun od => ⟨d, od, rfl, .inl ⟨kvs, upd_same, ?_⟩⟩⟩⟩
      have ld : Lk d := lk d _ hd1 True.intro
      -- what is told of a key
      have key : ∀ (j : Nat) (kk : Key) (v : V), kvs[j]? = some (kk, v) → ∃ x, kk = .inr x ∧ WordsAt ts (ns.take (i + 1)) x := fun j kk v hj => by
        obtain ⟨t, tm, ta, te, tk⟩ := Y.ks st.toNat d kvs hr1 hd _ (List.mem_of_getElem? hj)
        refine ⟨t.s, tk, t, tm, rfl, te, ?_⟩
        have pos := (oks t tm).1
        rw [List.take_add_one, hst]
        refine List.mem_append_right _ ?_
        show t.a ∈ [st]
        rw [List.mem_singleton]; omega
      have old : ∀ x, WordsAt ts (ns.take i) x → WordsAt ts (ns.take (i + 1)) x := fun x ⟨t, a1, a2, a3, a4⟩ => ⟨t, a1, a2, a3, by rw [List.take_add_one]; exact List.mem_append_left _ a4⟩
      have all : ∀ x, WordsAt ts (ns.take (i + 1)) x → WordsAt ts (ns.take i) x ∨ ∃ (j : Nat) (v : V), kvs[j]? = some (.inr x, v) := fun x ⟨t, a1, a2, a3, a4⟩ => by
        rw [List.take_add_one, hst] at a4
        rcases List.mem_append.mp a4 with m | m
        · exact .inl ⟨t, a1, a2, a3, m⟩
        · have ea : t.a = st := List.mem_singleton.mp m
          obtain ⟨d', h1, kvs', r, h2, h3, _⟩ := (done t a1).2 (by rw [a2]; exact a3)
          rw [ea, hr1] at h1
          cases h1
          rw [hd] at h2
          cases h2
          rw [a2] at h3
          unfold valV at h3
          cases e : kvs.find? fun kv => decide (kv.1 = .inr x) with
          | none => rw [e] at h3; cases h3
          | some kv =>
            obtain ⟨j, hj⟩ := List.mem_iff_getElem?.mp (List.mem_of_find?_eq_some e)
            have q := of_decide_eq_true (List.find?_some (p := fun kv : Key × V => decide (kv.1 = .inr x)) e)
            exact .inr ⟨j, kv.2, by rw [hj, ← q]⟩
      refine turns (J := Itk d od kvs) (n := kvs.length) (fun j H' => H' d = some (.frz od (.dK kvs)) ∧ (∀ b o, H1 b = some o → b ≠ d → b ≠ D → H' b = some o) ∧ Found P w H' D fun x => WordsAt ts (ns.take i) x ∨ ∃ (j' : Nat) (v : V), j' < j ∧ kvs[j']? = some (.inr x, v)) ⟨upd_same, fun b o z n _ => by rw [upd_ne n]; exact z, ?_⟩ ?_ ?_
      · obtain ⟨S, n, L, f1, f2, f3, f4⟩ := F1
        exact ⟨S, n, L, by rw [upd_ne nDd]; exact f1, f2, fun kk h => let ⟨x, a, b⟩ := f3 kk h; ⟨x, a, .inl b⟩, fun x h => h.elim (f4 x) fun ⟨j', v, z, _⟩ => absurd z (Nat.not_lt_zero _)⟩
      · rintro j H2 lt ⟨z1, z2, S, n, L, f1, f2, f3, f4⟩
        refine ⟨⟨z1, lt⟩, ?_⟩
        rintro x H3 ⟨rfl, kk, v, hj, rfl⟩
        obtain ⟨y, rfl, wy⟩ := key j kk v hj
        refine ⟨rfl, _, rfl, _, S, n, rfl, f1, ?_, by rw [upd_ne nDd.symm]; exact z1, fun b o z nb nb2 => by rw [upd_ne nb2]; exact z2 b o z nb nb2, _, _, _, upd_same, f2.add _, fun kk h => ?_, fun x h => ?_⟩
        · have fewL : L.length ≤ (ts.map fun t => (Sum.inr t.s : Key)).length := short_any f2.once fun kk h => by
            obtain ⟨x, rfl, px⟩ := f3 kk h
            have : WordsAt ts (ns.take (i + 1)) x := px.elim (old x) fun ⟨j', v', _, q⟩ => by
              obtain ⟨x', e, q'⟩ := key j' _ v' q
              rw [Sum.inr.inj e]; exact q'
            obtain ⟨t, tm, ex, _⟩ := this
            exact List.mem_map.mpr ⟨t, tm, by rw [ex]⟩
          rw [List.length_map] at fewL
          have := f2.size
          show n + 1 < 4096
          omega
        · have kk' : kk ∈ L ∨ kk = .inr y := by
            split at h
            · exact .inl h
            · exact (List.mem_append.mp h).imp id List.mem_singleton.mp
          rcases kk' with m | rfl
          · obtain ⟨x, a, b⟩ := f3 kk m
            exact ⟨x, a, b.imp id fun ⟨j', v', l, q⟩ => ⟨j', v', Nat.lt_succ_of_lt l, q⟩⟩
          · exact ⟨y, rfl, .inr ⟨j, v, Nat.lt_succ_self j, hj⟩⟩
        · have add : ∀ {kk : Key}, kk ∈ L ∨ kk = .inr y → kk ∈ (if S (.inr y : Key) = true then L else L ++ [.inr y]) := fun {kk} m => by
            split
            · rename_i c; exact m.elim id fun e => e ▸ (f2.mem _).mp c
            · exact m.elim (List.mem_append_left _) fun e => List.mem_append_right _ (List.mem_singleton.mpr e)
          rcases h with h | ⟨j', v', l, q⟩
          · exact add (.inl (f4 x (.inl h)))
          · rcases Nat.lt_or_eq_of_le (Nat.le_of_lt_succ l) with l | rfl
            · exact add (.inl (f4 x (.inr ⟨j', v', l, q⟩)))
            · rw [hj] at q
              cases q
              exact add (.inr rfl)
      · rintro H2 ⟨z1, z2, S, n, L, f1, f2, f3, f4⟩
        refine ⟨⟨z1, Nat.le_refl _⟩, upd H2 d (.dK kvs), .inr ⟨d, od, _, ld, z1, rfl⟩, fun b o z => ?_, S, n, L, by rw [upd_ne nDd]; exact f1, f2, fun kk h => ?_, fun x h => ?_⟩
        · rcases Decidable.em (b = d) with q | q
          · subst q
            rw [upd_same, ← hd]; exact z
          · rw [upd_ne q]
            exact z2 b o (e1 _ _ z) q (ne_of_none z hD)
        · obtain ⟨x, rfl, b⟩ := f3 kk h
          refine ⟨x, rfl, b.elim (old x) fun ⟨j', v', _, q⟩ => ?_⟩
          obtain ⟨x', e, q'⟩ := key j' _ v' q
          rw [Sum.inr.inj e]; exact q'
        · refine f4 x ((all x h).imp id fun ⟨j', v', q⟩ => ⟨j', v', (List.getElem?_eq_some_iff.mp q).1, q⟩)
    · rintro H1 ⟨e1, S, n, L, f1, f2, f3, f4⟩
      rw [List.length_map, List.take_length] at f3 f4
      refine ⟨D, S, n, false, rfl, f1, fun kk h => ?_, fun M q up memM lenM nq => ?_⟩
      · obtain ⟨x, rfl, _⟩ := f3 kk ((f2.mem kk).mp h)
        rfl
      · have inM : ∀ kk, kk ∈ M ↔ kk ∈ L := fun kk => (memM kk).trans (f2.mem kk)
        obtain ⟨ks, rfl⟩ := words_of up fun kk h => let ⟨x, a, _⟩ := f3 kk ((inM kk).mp h); ⟨x, a⟩
        refine k _ q ks (e1.trans (same_new nq)) ?_ (by rw [upd_same, List.map_map]; rfl) up fun x => ?_
        · cases z : H q with
          | none => rfl
          | some o => rw [e1 _ _ z] at nq; cases nq
        · constructor
          · intro h
            obtain ⟨x', e, b⟩ := f3 (.inr x) ((inM _).mp (List.mem_map.mpr ⟨x, h, rfl⟩))
            rw [Sum.inr.inj e]; exact b
          · intro h
            obtain ⟨x', h', e⟩ := List.mem_map.mp ((inM _).mpr (f4 x h))
            rw [← Sum.inr.inj e]; exact h'
end
end K1
end
section
/-! trace_to. -/
namespace K1
open PySem L2
theorem put_in {H H' : Hp} {p : Addr} {o : HO} (e : Same H H') (h : H p = none) : Same H (upd H' p o) := fun b u z => by rw [upd_ne (ne_of_none z h)]; exact e _ _ z
theorem iteT' {c : Prop} [Decidable c] {a b : Prop} (h : c) (x : a) : if c then a else b := by rw [if_pos h]; exact x
theorem iteF' {c : Prop} [Decidable c] {a b : Prop} (h : ¬ c) (x : b) : if c then a else b := by rw [if_neg h]; exact x
/-- where the nodes of a search come from -/
structure OrgAt (H : Hp) (O : Addr) (os : List (Option (Nat × Str))) : Prop where
  at_ : ∃ vs : List V, H O = some (.lst vs) ∧ vs.length = os.length ∧ ∀ (i : Nat) (v : V) (o : Option (Nat × Str)), vs[i]? = some v → os[i]? = some o → match o with
    | none => v = .non
    | some (a, x) => ∃ t, v = .ref t ∧ H t = some (.tup [.int a, .str x])
theorem OrgAt.same {H H' : Hp} {O : Addr} {os : List (Option (Nat × Str))} (h : OrgAt H O os) (e : Same H H') : OrgAt H' O os := by
  obtain ⟨vs, a, b, c⟩ := h.at_
  refine ⟨vs, e _ _ a, b, fun i v o h1 h2 => ?_⟩
  have z := c i v o h1 h2
  cases o with
  | none => exact z
  | some y => exact let ⟨t, p, q⟩ := z; ⟨t, p, e _ _ q⟩
/-- the words that lead to the nodes -/
structure Led (os : List (Option (Nat × Str))) (ws : List (List Str)) : Prop where
  len : ws.length = os.length
  none_ : ∀ (i : Nat), os[i]? = some none → ws[i]? = some []
  some_ : ∀ (i a : Nat) (x : Str), os[i]? = some (some (a, x)) → a < i ∧ ∃ w, ws[a]? = some w ∧ ws[i]? = some (w ++ [x])
  short : ∀ (w : List Str), w ∈ ws → w.length ≤ os.length
def spTraceTo : Sp := fun vs H Q _ => ∃ (O : Addr) (at_ : Nat) (os : List (Option (Nat × Str))) (ws : List (List Str)) (w : List Str), vs = [.ref O, .int at_] ∧ OrgAt H O os ∧ Led os ws ∧ os.length ≤ 100000 ∧ ws[at_]? = some w ∧
  ∀ (H' : Hp) (L : Addr), Same H H' → H L = none → H' L = some (.lst (w.map V.str)) → Q (.ref L) H'
section
variable {P : Program} {w : World} {K : PySem.W.Frag} {mg : Str → Option Value} {base : Heap}
abbrev sTr : Stmt := top 23
abbrev nTr : List Str := ["origins", "at", "trace", "word"]
theorem scTr : FnScope nTr ["origins", "at"] (defScope sTr) := ⟨rfl, rfl, rfl, by decide +kernel, rfl, by decide +kernel, by decide +kernel⟩
theorem ok_tr {f : Addr} {fd : FuncData} (F : Fun K "trace_to" "trace_to" sTr f fd) : FnOk P w K mg base CX0 2 f fd ["origins", "at"] spTraceTo := by
  refine F.ok scTr (fun vs H Q E h => ?_) (fun cdv A outer s H vs Q E hr h => ?_)
  · obtain ⟨O, at_, os, ws, w, rfl, _⟩ := h
    rfl
  · obtain ⟨O, at_, os, ws, wd, rfl, org, led, few, hw, k⟩ := h
    have nd := scTr.nd
    refine ⟨_, (pss_cons (ps_set (i := 2) nd rfl (Or.inl rfl) (pe_lst pa_nil))
      (pss_cons (ps_while PassesOwn.never (pt_cmpR op_notN (pe_ix ix_list (pv 0) (pv 1) (fun _ _ => rfl)) pe_non (nomark _))
        (pss_cons (ps_asg (pe_ix ix_list (pv 0) (pv 1) (fun _ _ => rfl)) (pg_tup rfl (pgs_cons (pg_name (i := 1) nd rfl (Or.inl rfl)) (pgs_cons (pg_name (i := 3) nd rfl (Or.inl rfl)) pgs_nil))))
        (pss_one (ps_expr (pe_bm PySem.F.plainAttrs_list PySem.F.slot_list_append PySem.F.type_list_append mt_append (pv 2) (pa_cons (pv 3) pa_nil))))))
      (pss_one (ps_ret (pe_revL (pv 2)))))), ?_⟩
    refine into ⟨Nat.zero_le _, fun T nT => ?_⟩
    obtain ⟨vs, hO, lenO, each⟩ := org.at_
    have eT : Same H (upd H T (.lst [])) := same_new nT
    refine into ⟨fun m σ H' => ∃ (w1 u : List Str) (v3 : Option V), σ = [some (.ref O), some (.int (m : Int)), some (.ref T), v3] ∧ ws[m]? = some w1 ∧ wd = w1 ++ u ∧ H' T = some (.lst (u.reverse.map V.str)) ∧ Same H H', ⟨at_, wd, [], none, rfl, hw, by rw [List.append_nil], upd_same, eT⟩, ?_⟩
    rintro m σ H1 ⟨w1, u, v3, rfl, hw1, ew, hT, e1⟩
    have lt : m < os.length := by
      have := (List.getElem?_eq_some_iff.mp hw1).1
      rw [led.len] at this; exact this
    obtain ⟨v, hv⟩ : ∃ v, vs[m]? = some v := ⟨_, List.getElem?_eq_getElem (by rw [lenO]; exact lt)⟩
    obtain ⟨o, ho⟩ : ∃ o, os[m]? = some o := ⟨_, List.getElem?_eq_getElem lt⟩
    have told := each m v o hv ho
    refine ⟨_, rfl, _, rfl, O, _, _, v, rfl, rfl, SqL.of (e1 _ _ hO), atI_nat hv, rfl, _, rfl, ?_⟩
    have short := led.short wd (List.mem_of_getElem? hw)
    have ulen : u.length ≤ os.length := by
      rw [ew, List.length_append] at short; omega
    cases o with
    | none =>
      obtain rfl : v = .non := told
      refine iteF' (by simp) ?_
      have z := led.none_ m ho
      rw [hw1] at z
      cases z
      have eu : wd = u := ew
      subst eu
      exact ⟨_, rfl, T, _, rfl, SqL.of hT, fun p np => k _ p (e1.trans (same_new np)) (by
        cases z : H p with
        | none => rfl
        | some o => rw [e1 _ _ z] at np; cases np) (by rw [upd_same, ← List.map_reverse, List.reverse_reverse])⟩
    | some y =>
      obtain ⟨a, x⟩ := y
      obtain ⟨t, rfl, ht⟩ := told
      obtain ⟨less, w', hw', e'⟩ := led.some_ m a x ho
      rw [hw1] at e'
      have ee : w1 = w' ++ [x] := Option.some.inj e'
      refine iteT' (by simp) ⟨fun σ' H' => ∃ (w1 u : List Str) (v3 : Option V), σ' = [some (.ref O), some (.int (a : Int)), some (.ref T), v3] ∧ ws[a]? = some w1 ∧ wd = w1 ++ u ∧ H' T = some (.lst (u.reverse.map V.str)) ∧ Same H H', fun σ' H' z => ⟨a, less, z⟩, ?_⟩
      refine ⟨_, rfl, _, rfl, O, _, _, .ref t, rfl, rfl, SqL.of (e1 _ _ hO), atI_nat hv, t, _, rfl, SqT.of (e1 _ _ ht), rfl, _, _, rfl, _, _, rfl, rfl, ?_⟩
      refine ⟨_, rfl, .inl ⟨rfl, _, SqL.of hT⟩, _, rfl, T, _, _, rfl, rfl, hT, by rw [List.length_map, List.length_reverse, sizeLine_eq]; omega, w', x :: u, _, rfl, hw', by rw [ew, ee, List.append_assoc]; rfl, by rw [upd_same, List.reverse_cons, List.map_append]; rfl, put_in e1 nT⟩
end
end K1
end
section
/-! Alike and Unlike are made. -/
namespace K1
open PySem L2
def aF (a : Addr) : List (Str × V) := putF "pairs" (.ref a) []
def uF (a : Addr) (b : V) : List (Str × V) := putF "is_first" b (putF "trace" (.ref a) [])
theorem aF_pairs {a : Addr} : (aF a).lookup ("pairs" : Str) = some (.ref a) := by
  unfold aF
  rw [lookup_putF, if_pos rfl]
theorem aF_none {a : Addr} {m : Str} (h : ¬ m = "pairs") : (aF a).lookup m = none := by
  unfold aF
  rw [lookup_putF, if_neg h]; rfl
theorem uF_trace {a : Addr} {b : V} : (uF a b).lookup ("trace" : Str) = some (.ref a) := by
  unfold uF
  rw [lookup_putF, if_neg (by decide +kernel), lookup_putF, if_pos rfl]
theorem uF_first {a : Addr} {b : V} : (uF a b).lookup ("is_first" : Str) = some b := by
  unfold uF
  rw [lookup_putF, if_pos rfl]
theorem uF_none {a : Addr} {b : V} {m : Str} (h : ¬ m = "is_first" ∧ ¬ m = "trace") : (uF a b).lookup m = none := by
  unfold uF
  rw [lookup_putF, if_neg h.1, lookup_putF, if_neg h.2]; rfl
def spAI (CA : Addr) : Sp := fun vs H Q _ => ∃ (x dx a : Addr) (us : List V), vs = [.ref x, .ref a] ∧ H x = some (.ins CA dx []) ∧ H a = some (.lst us) ∧
  ∀ (H' : Hp) (dx' a' : Addr), Off x H H' → H' x = some (.ins CA dx' (aF a')) → H' a' = some (.lst us) → H a' = none → Q .non H'
def spUI (CU : Addr) : Sp := fun vs H Q _ => ∃ (x dx a : Addr) (us : List V) (b : V), vs = [.ref x, .ref a, b] ∧ H x = some (.ins CU dx []) ∧ H a = some (.lst us) ∧
  ∀ (H' : Hp) (dx' a' : Addr), Off x H H' → H' x = some (.ins CU dx' (uF a' b)) → H' a' = some (.lst us) → H a' = none → Q .non H'
structure TxtAU (K : PySem.W.Frag) (mg : Str → Option Value) (CA CU : Addr) : Prop where
  list : mg "list" = none
  clA : Cls K CA
  clU : Cls K CU
  n_pairs : NoAttr K CA "pairs"
  n_trace : NoAttr K CU "trace"
  n_is_first : NoAttr K CU "is_first"
section
variable {P : Program} {w : World} {K : PySem.W.Frag} {mg : Str → Option Value} {base : Heap} {CA CU : Addr}
abbrev sAI : Stmt := inClass (top 16) 0
theorem scAI : FnScope ["self", "pairs"] ["self", "pairs"] (defScope sAI) := ⟨rfl, rfl, rfl, by decide +kernel, rfl, by decide +kernel, by decide +kernel⟩
theorem ok_aI {f : Addr} {fd : FuncData} (F : Fun K "__init__" "Alike.__init__" sAI f fd) (T : TxtAU K mg CA CU) : FnOk P w K mg base CX0 1 f fd ["self", "pairs"] (spAI CA) := by
  refine F.ok scAI (fun vs H Q E h => ?_) (fun cdv A outer s H vs Q E hr h => ?_)
  · obtain ⟨x, dx, a, us, rfl, _⟩ := h
    rfl
  · obtain ⟨x, dx, a, us, rfl, hx, ha, k⟩ := h
    have nd := scAI.nd
    refine ⟨_, (pss_one (ps_fld (pv 0) (pe_callTy call_list_of (by rfl) T.list (by decide +kernel) (pa_cons (pv 1) pa_nil)) rfl)), ?_⟩
    refine last_fld ⟨_, rfl, a, _, rfl, .inl (SqL.of ha), fun l nl => ⟨_, rfl, x, _, dx, _, rfl, same_new nl _ _ hx, T.clA, T.n_pairs, (show (0 : Nat) < 1000 by decide), ?_⟩⟩
    have xl : l ≠ x := fun z => by rw [z, hx] at nl; cases nl
    exact k _ dx l (fun q o z n => by rw [upd_ne n]; exact same_new nl _ _ z) upd_same (by rw [upd_ne xl, upd_same]) nl
abbrev sUI : Stmt := inClass (top 17) 0
theorem scUI : FnScope ["self", "trace", "is_first"] ["self", "trace", "is_first"] (defScope sUI) := ⟨rfl, rfl, rfl, by decide +kernel, rfl, by decide +kernel, by decide +kernel⟩
theorem ok_uI {f : Addr} {fd : FuncData} (F : Fun K "__init__" "Unlike.__init__" sUI f fd) (T : TxtAU K mg CA CU) : FnOk P w K mg base CX0 1 f fd ["self", "trace", "is_first"] (spUI CU) := by
  refine F.ok scUI (fun vs H Q E h => ?_) (fun cdv A outer s H vs Q E hr h => ?_)
  · obtain ⟨x, dx, a, us, b, rfl, _⟩ := h
    rfl
  · obtain ⟨x, dx, a, us, b, rfl, hx, ha, k⟩ := h
    have nd := scUI.nd
    refine ⟨_, (pss_cons (ps_fld (pv 0) (pe_callTy call_list_of (by rfl) T.list (by decide +kernel) (pa_cons (pv 1) pa_nil)) rfl)
      (pss_one (ps_fld (pv 0) (pv 2) rfl))), ?_⟩
    refine into_fld ⟨_, rfl, a, _, rfl, .inl (SqL.of ha), fun l nl => ⟨_, rfl, x, _, dx, _, rfl, same_new nl _ _ hx, T.clU, T.n_trace, (show (0 : Nat) < 1000 by decide), ?_⟩⟩
    have xl : l ≠ x := fun z => by rw [z, hx] at nl; cases nl
    refine last_fld ⟨_, rfl, _, rfl, x, _, dx, _, rfl, upd_same, T.clU, T.n_is_first, (show (1 : Nat) < 1000 by decide), ?_⟩
    exact k _ dx l (fun q o z n => by rw [upd_ne n, upd_ne n]; exact same_new nl _ _ z) upd_same (by rw [upd_ne xl, upd_ne xl, upd_same]) nl
end
end K1
end
section
set_option maxHeartbeats 2000000
/-! bool(a tuple). -/
namespace MX
open PySem PySem.Spec PyProof.Rows L2
open PySem.Sem (wp)
theorem asks_tuple (l : Addr) (items : Array Value) (fits : (items.size : Int) < 2 ^ 63) :
    Meets (Builtin.«bool.__new__» ⟨[.type "bool", .ref l], []⟩) (fun _ R s => IsTup s.heap l items ∧ R (.ok (.ret (.bool (!items.isEmpty)))) { s with toks := s.toks + 1 + 1 }) :=
  Meets.of_wp fun prog w A R s told => by
    obtain ⟨at_, told⟩ := told
    obtain ⟨heap, g, d, tk, os⟩ := s
    have sub := F.conv_sub_bool
    repeat (any_goals (first | assumption | (with_reducible refine truthy_tuple at_ fits ?_) | wp_step))
    all_goals first | exact ⟨_, rfl, told⟩ | exact told | skip
theorem call_boolT {X : Cx} : CallR X (.type "bool") (fun xs H Q => ∃ (a : Addr) (zs : List V), xs = [.ref a] ∧ SqT X.K H a zs ∧ Q (.bl (!zs.isEmpty)) H) := by
  intro pins s σ H xs us Q I r h
  obtain ⟨a, zs, rfl, hq, q⟩ := h
  obtain rfl := Vals.ref1 r
  obtain ⟨its, rv, ht, few⟩ := I.tuple hq
  have big := line63
  have same := rv.length
  refine PySem.call_bool_1 (asks_tuple a its.toArray (by simp only [List.size_toArray]; omega)) ⟨ht, rfl, ?_⟩
  exact ⟨.bl (!zs.isEmpty), H, I.tok _, by rw [isEmpty_of rv]; rfl, q⟩
end MX
end
section
/-! A search in the order of words: a queue of nodes, each with the word that led to it. -/
namespace BF
universe u v
variable {α : Type u} {β : Type v}
/-- where a word leads -/
def go (step : α → β → α) (p : α) (w : List β) : α := w.foldl step p
theorem go_snoc (step : α → β → α) (p : α) (w : List β) (d : β) : go step p (w ++ [d]) = step (go step p w) d := by
  unfold go
  rw [List.foldl_append]; rfl
/-- a word all of whose letters stand at the nodes that it goes through, and that never goes wrong -/
def Fine (step : α → β → α) (letters : α → List β) (ok : α → Prop) (p : α) : List β → Prop
  | [] => True
  | d :: w => d ∈ letters p ∧ ok (step p d) ∧ Fine step letters ok (step p d) w
theorem fine_snoc {step : α → β → α} {letters : α → List β} {ok : α → Prop} : ∀ {p : α} (w : List β) (d : β), Fine step letters ok p (w ++ [d]) ↔ Fine step letters ok p w ∧ d ∈ letters (go step p w) ∧ ok (step (go step p w) d)
  | p, [], d => ⟨fun h => ⟨trivial, h.1, h.2.1⟩, fun h => ⟨h.2.1, h.2.2, trivial⟩⟩
  | p, e :: w, d => by
    have ih := fine_snoc (step := step) (letters := letters) (ok := ok) (p := step p e) w d
    constructor
    · intro h
      obtain ⟨h1, h2, h3⟩ := h
      obtain ⟨a, b, c⟩ := ih.mp h3
      exact ⟨⟨h1, h2, a⟩, b, c⟩
    · rintro ⟨⟨h1, h2, a⟩, b, c⟩
      exact ⟨h1, h2, ih.mpr ⟨a, b, c⟩⟩
/-- the queue, of which the first ones are done -/
structure Que (step : α → β → α) (letters : α → List β) (ok : α → Prop) (start : α) (ps : List α) (ws : List (List β)) (n : Nat) : Prop where
  len : ws.length = ps.length
  first : ps[0]? = some start
  firstW : ws[0]? = some []
  is : ∀ (i : Nat) (p : α) (w : List β), ps[i]? = some p → ws[i]? = some w → go step start w = p
  fine : ∀ (i : Nat) (w : List β), ws[i]? = some w → Fine step letters ok start w
  mono : ∀ (i j : Nat) (w v : List β), i ≤ j → ws[i]? = some w → ws[j]? = some v → w.length ≤ v.length
  near : ∀ (j : Nat) (v w : List β), ws[j]? = some v → ws[n]? = some w → v.length ≤ w.length + 1
  done : ∀ (i : Nat) (p : α) (w : List β) (d : β), i < n → ps[i]? = some p → ws[i]? = some w → d ∈ letters p → ok (step p d) ∧ ∃ (j : Nat) (v : List β), ps[j]? = some (step p d) ∧ ws[j]? = some v ∧ v.length ≤ w.length + 1
theorem Que.start {step : α → β → α} {letters : α → List β} {ok : α → Prop} {s : α} : Que step letters ok s [s] [[]] 0 where
  len := rfl
  first := rfl
  firstW := rfl
  is := fun i p w h1 h2 => by
    cases i with
    | zero => cases h1; cases h2; rfl
    | succ i => simp at h1
  fine := fun i w h => by
    cases i with
    | zero => cases h; exact True.intro
    | succ i => simp at h
  mono := fun i j w v _ h1 h2 => by
    cases i with
    | zero => cases h1; exact Nat.zero_le _
    | succ i => simp at h1
  near := fun j v w h1 h2 => by
    cases j with
    | zero => cases h1; exact Nat.zero_le _
    | succ j => simp at h1
  done := fun i p w d h => absurd h (Nat.not_lt_zero i)
variable {step : α → β → α} {letters : α → List β} {ok : α → Prop} {start : α} {ps : List α} {ws : List (List β)} {n : Nat}
/-- a fine word that is shorter than the one at hand has its node among those done, by a word no longer -/
theorem Que.found (q : Que step letters ok start ps ws n) {w : List β} (hw : ws[n]? = some w) : ∀ (k : Nat) (u : List β), u.length = k → Fine step letters ok start u → u.length < w.length → ∃ (i : Nat) (v : List β), i < n ∧ ps[i]? = some (go step start u) ∧ ws[i]? = some v ∧ v.length ≤ u.length
  | 0, u, hu, _, lt => by
    obtain rfl := List.eq_nil_of_length_eq_zero hu
    refine ⟨0, [], ?_, q.first, q.firstW, Nat.zero_le _⟩
    rcases Nat.eq_zero_or_pos n with z | z
    · subst z
      rw [q.firstW] at hw
      cases hw
      exact absurd lt (Nat.lt_irrefl _)
    · exact z
  | k + 1, u, hu, f, lt => by
    obtain ⟨u', d, rfl⟩ : ∃ u' d, u = u' ++ [d] := by
      have ne : u ≠ [] := fun z => by rw [z] at hu; simp at hu
      exact ⟨u.dropLast, u.getLast ne, (List.dropLast_concat_getLast ne).symm⟩
    rw [List.length_append] at hu lt
    simp at hu lt
    obtain ⟨f1, f2, f3⟩ := (fine_snoc u' d).mp f
    obtain ⟨i, v, hi, hp, hv, lv⟩ := q.found hw k u' (by omega) f1 (by omega)
    obtain ⟨_, j, v', hj, hv', lv'⟩ := q.done i _ v d hi hp hv f2
    refine ⟨j, v', ?_, by rw [go_snoc]; exact hj, hv', by rw [List.length_append]; simp; omega⟩
    refine Decidable.byContradiction fun ge => ?_
    have := q.mono n j w v' (by omega) hw hv'
    omega
/-- a word that goes wrong is longer than the one at hand -/
theorem Que.least (q : Que step letters ok start ps ws n) {w : List β} (hw : ws[n]? = some w) {u : List β} {d : β} (f : Fine step letters ok start u) (hd : d ∈ letters (go step start u)) (bad : ¬ ok (step (go step start u) d)) : w.length ≤ u.length := by
  refine Decidable.byContradiction fun lt => ?_
  obtain ⟨i, v, hi, hp, hv, _⟩ := q.found hw u.length u rfl f (by omega)
  exact bad (q.done i _ v d hi hp hv hd).1
/-- if all are done, no word goes wrong -/
theorem Que.never (q : Que step letters ok start ps ws ps.length) : ∀ (k : Nat) (u : List β), u.length = k → Fine step letters ok start u → ∃ (i : Nat), ps[i]? = some (go step start u)
  | 0, u, hu, _ => by
    obtain rfl := List.eq_nil_of_length_eq_zero hu
    exact ⟨0, q.first⟩
  | k + 1, u, hu, f => by
    obtain ⟨u', d, rfl⟩ : ∃ u' d, u = u' ++ [d] := by
      have ne : u ≠ [] := fun z => by rw [z] at hu; simp at hu
      exact ⟨u.dropLast, u.getLast ne, (List.dropLast_concat_getLast ne).symm⟩
    rw [List.length_append] at hu
    simp at hu
    obtain ⟨f1, f2, f3⟩ := (fine_snoc u' d).mp f
    obtain ⟨i, hp⟩ := q.never k u' (by omega) f1
    have li := (List.getElem?_eq_some_iff.mp hp).1
    have hv : ws[i]? = some (ws[i]'(by rw [q.len]; exact li)) := List.getElem?_eq_getElem _
    obtain ⟨_, j, _, hj, _⟩ := q.done i _ _ d li hp hv f2
    exact ⟨j, by rw [go_snoc]; exact hj⟩
theorem Que.right (q : Que step letters ok start ps ws ps.length) {u : List β} {d : β} (f : Fine step letters ok start u) (hd : d ∈ letters (go step start u)) : ok (step (go step start u) d) := by
  obtain ⟨i, hp⟩ := q.never u.length u rfl f
  have li := (List.getElem?_eq_some_iff.mp hp).1
  have hv : ws[i]? = some (ws[i]'(by rw [q.len]; exact li)) := List.getElem?_eq_getElem _
  exact (q.done i _ _ d li hp hv hd).1
/-! ### a turn: the node at hand, letter by letter -/
/-- in the middle of a turn: some letters of the node at hand are done -/
structure Turn (step : α → β → α) (letters : α → List β) (ok : α → Prop) (start : α) (ps : List α) (ws : List (List β)) (n : Nat) (p : α) (w : List β) (ds : List β) : Prop where
  que : Que step letters ok start ps ws n
  node : ps[n]? = some p
  word : ws[n]? = some w
  part : ∀ d ∈ ds, ok (step p d) ∧ ∃ (j : Nat) (v : List β), ps[j]? = some (step p d) ∧ ws[j]? = some v ∧ v.length ≤ w.length + 1
theorem Que.turn (q : Que step letters ok start ps ws n) {p : α} {w : List β} (hp : ps[n]? = some p) (hw : ws[n]? = some w) : Turn step letters ok start ps ws n p w [] := ⟨q, hp, hw, fun d h => by cases h⟩
/-- a letter to a node that is known -/
theorem Turn.old {p : α} {w ds : List β} (t : Turn step letters ok start ps ws n p w ds) {d : β} (hd : ok (step p d)) {j : Nat} (hj : ps[j]? = some (step p d)) : Turn step letters ok start ps ws n p w (ds ++ [d]) := by
  have lj := (List.getElem?_eq_some_iff.mp hj).1
  have hv : ws[j]? = some (ws[j]'(by rw [t.que.len]; exact lj)) := List.getElem?_eq_getElem _
  refine ⟨t.que, t.node, t.word, fun e he => ?_⟩
  rcases List.mem_append.mp he with h | h
  · exact t.part e h
  · rw [List.mem_singleton.mp h]
    exact ⟨hd, j, _, hj, hv, t.que.near j _ w hv t.word⟩
/-- a letter to a new node -/
theorem Turn.new {p : α} {w ds : List β} (t : Turn step letters ok start ps ws n p w ds) {d : β} (hl : d ∈ letters p) (hd : ok (step p d)) : Turn step letters ok start (ps ++ [step p d]) (ws ++ [w ++ [d]]) n p w (ds ++ [d]) := by
  have q := t.que
  have ln := (List.getElem?_eq_some_iff.mp t.node).1
  have lw := (List.getElem?_eq_some_iff.mp t.word).1
  have up : ∀ {i : Nat} {x : α}, ps[i]? = some x → (ps ++ [step p d])[i]? = some x := fun {i x} h => by rw [List.getElem?_append_left (List.getElem?_eq_some_iff.mp h).1]; exact h
  have upw : ∀ {i : Nat} {x : List β}, ws[i]? = some x → (ws ++ [w ++ [d]])[i]? = some x := fun {i x} h => by rw [List.getElem?_append_left (List.getElem?_eq_some_iff.mp h).1]; exact h
  have cs : ∀ {i : Nat} {x : List β}, (ws ++ [w ++ [d]])[i]? = some x → ws[i]? = some x ∨ (i = ws.length ∧ x = w ++ [d]) := fun {i x} h => by
    rcases Nat.lt_or_ge i ws.length with a | a
    · rw [List.getElem?_append_left a] at h; exact .inl h
    · have b := (List.getElem?_eq_some_iff.mp h).1
      rw [List.length_append] at b
      simp at b
      have e : i = ws.length := by omega
      subst e
      rw [List.getElem?_append_right (Nat.le_refl _), Nat.sub_self] at h
      cases h
      exact .inr ⟨rfl, rfl⟩
  have csp : ∀ {i : Nat} {x : α}, (ps ++ [step p d])[i]? = some x → ps[i]? = some x ∨ (i = ps.length ∧ x = step p d) := fun {i x} h => by
    rcases Nat.lt_or_ge i ps.length with a | a
    · rw [List.getElem?_append_left a] at h; exact .inl h
    · have b := (List.getElem?_eq_some_iff.mp h).1
      rw [List.length_append] at b
      simp at b
      have e : i = ps.length := by omega
      subst e
      rw [List.getElem?_append_right (Nat.le_refl _), Nat.sub_self] at h
      cases h
      exact .inr ⟨rfl, rfl⟩
  have len := q.len
  have wp := q.is n p w t.node t.word
  have part : ∀ e ∈ ds ++ [d], ok (step p e) ∧ ∃ (j : Nat) (v : List β), (ps ++ [step p d])[j]? = some (step p e) ∧ (ws ++ [w ++ [d]])[j]? = some v ∧ v.length ≤ w.length + 1 := fun e he => by
    rcases List.mem_append.mp he with h | h
    · obtain ⟨a, j, v, b, c, l⟩ := t.part e h
      exact ⟨a, j, v, up b, upw c, l⟩
    · rw [List.mem_singleton.mp h]
      exact ⟨hd, ps.length, w ++ [d], by rw [List.getElem?_append_right (Nat.le_refl _), Nat.sub_self]; rfl, by rw [← len, List.getElem?_append_right (Nat.le_refl _), Nat.sub_self]; rfl, by rw [List.length_append]; simp⟩
  refine ⟨⟨by rw [List.length_append, List.length_append, len]; rfl, up q.first, upw q.firstW, fun i x y h1 h2 => ?_, fun i y h => ?_, fun i j x y hij h1 h2 => ?_, fun j y x h1 h2 => ?_, fun i x y e hi h1 h2 he => ?_⟩, up t.node, upw t.word, part⟩
  · rcases csp h1 with a | ⟨a, rfl⟩
    · rcases cs h2 with b | ⟨b, rfl⟩
      · exact q.is i x y a b
      · have := (List.getElem?_eq_some_iff.mp a).1; omega
    · rcases cs h2 with b | ⟨b, rfl⟩
      · have := (List.getElem?_eq_some_iff.mp b).1; omega
      · rw [go_snoc, wp]
  · rcases cs h with a | ⟨_, rfl⟩
    · exact q.fine i y a
    · exact (fine_snoc w d).mpr ⟨q.fine n w t.word, by rw [wp]; exact hl, by rw [wp]; exact hd⟩
  · rcases cs h1 with a | ⟨a, rfl⟩
    · rcases cs h2 with b | ⟨b, rfl⟩
      · exact q.mono i j x y hij a b
      · have := q.near i x w a t.word
        rw [List.length_append]; simpa using this
    · rcases cs h2 with b | ⟨b, rfl⟩
      · have := (List.getElem?_eq_some_iff.mp b).1; omega
      · exact Nat.le_refl _
  · have hx : ws[n]? = some x := by
      rcases cs h2 with b | ⟨b, _⟩
      · exact b
      · omega
    rw [t.word] at hx
    cases hx
    rcases cs h1 with a | ⟨_, rfl⟩
    · exact q.near j y w a t.word
    · rw [List.length_append]; simp
  · have lx : i < ps.length := by omega
    have a : ps[i]? = some x := by rw [List.getElem?_append_left lx] at h1; exact h1
    have b : ws[i]? = some y := by rw [List.getElem?_append_left (by omega)] at h2; exact h2
    obtain ⟨o, j, v, c, d', l⟩ := q.done i x y e hi a b he
    exact ⟨o, j, v, up c, upw d', l⟩
/-- all letters of the node at hand are done -/
theorem Turn.next {p : α} {w ds : List β} (t : Turn step letters ok start ps ws n p w ds) (all : ∀ d ∈ letters p, d ∈ ds) : Que step letters ok start ps ws (n + 1) := by
  have q := t.que
  refine ⟨q.len, q.first, q.firstW, q.is, q.fine, q.mono, fun j v x h1 h2 => ?_, fun i x y e hi h1 h2 he => ?_⟩
  · have a := q.near j v w h1 t.word
    have b := q.mono n (n + 1) w x (Nat.le_succ n) t.word h2
    omega
  · rcases Nat.lt_or_eq_of_le (Nat.le_of_lt_succ hi) with h | h
    · exact q.done i x y e h h1 h2 he
    · subst h
      rw [t.node] at h1
      rw [t.word] at h2
      cases h1; cases h2
      exact t.part e (all e he)
end BF
end
section
/-! Pairs of states' tuples: nodes of a search. -/
namespace K1
open PySem L2
open MX (Rise Up)
abbrev Node : Type := List Int × List Int
section
variable (ts1 ts2 : List Stp) (m1 m2 : Int)
noncomputable def stpN (p : Node) (d : Str) : Node := (aft ts1 m1 p.1 d, aft ts2 m2 p.2 d)
noncomputable def letN (p : Node) : List Str := (ts1.map Stp.s ++ ts2.map Stp.s).filter fun x => @decide (WordsAt ts1 p.1 x ∨ WordsAt ts2 p.2 x) (Classical.propDecidable _)
def okN (p : Node) : Prop := p.1 ≠ [] ∧ p.2 ≠ []
noncomputable def startN : Node := (spr ts1 m1 [0], spr ts2 m2 [0])
theorem mem_letN {p : Node} {x : Str} : x ∈ letN ts1 ts2 p ↔ WordsAt ts1 p.1 x ∨ WordsAt ts2 p.2 x := by
  unfold letN
  rw [List.mem_filter, @decide_eq_true_iff _ (Classical.propDecidable _)]
  refine ⟨fun h => h.2, fun h => ⟨?_, h⟩⟩
  rcases h with ⟨t, a, b, _⟩ | ⟨t, a, b, _⟩
  · exact List.mem_append_left _ (List.mem_map.mpr ⟨t, a, b⟩)
  · exact List.mem_append_right _ (List.mem_map.mpr ⟨t, a, b⟩)
end
/-- a pair of states' tuples at t -/
def PairOf (H : Hp) (t : Addr) (p : Node) : Prop := ∃ l h, H t = some (.tup [.ref l, .ref h]) ∧ H l = some (.tup (p.1.map V.int)) ∧ H h = some (.tup (p.2.map V.int))
theorem PairOf.same {H H' : Hp} {t : Addr} {p : Node} (h : PairOf H t p) (e : Same H H') : PairOf H' t p := let ⟨l, k, a, b, c⟩ := h; ⟨l, k, e _ _ a, e _ _ b, e _ _ c⟩
open PySem (NestedKey)
def keyN (p : Node) : NestedKey := .tup [.tup (p.1.map .num), .tup (p.2.map .num)]
theorem keyN_inj {p q : Node} (h : keyN p = keyN q) : p = q := by
  have inj : ∀ {xs ys : List Int}, xs.map NestedKey.num = ys.map NestedKey.num → xs = ys := fun {xs ys} e => by
    induction xs generalizing ys with
    | nil => cases ys with
      | nil => rfl
      | cons y ys => cases e
    | cons x xs ih => cases ys with
      | nil => cases e
      | cons y ys =>
        rw [List.map_cons, List.map_cons] at e
        obtain ⟨e1, e2⟩ := List.cons.inj e
        rw [NestedKey.num.inj e1, ih e2]
  unfold keyN at h
  have h' := NestedKey.tup.inj h
  obtain ⟨h1, h2⟩ := List.cons.inj h'
  obtain ⟨h3, _⟩ := List.cons.inj h2
  exact Prod.ext (inj (NestedKey.tup.inj h1)) (inj (NestedKey.tup.inj h3))
theorem nums_depth : ∀ xs : List Int, NestedKey.depthAll (xs.map .num) ≤ 1
  | [] => Nat.zero_le _
  | x :: xs => by
    have ih := nums_depth xs
    rw [List.map_cons]
    unfold NestedKey.depthAll NestedKey.depth
    omega
theorem keyN_deep (p : Node) : (keyN p).depth ≤ 8 := by
  have a := nums_depth p.1
  have b := nums_depth p.2
  unfold keyN
  simp only [NestedKey.depth, NestedKey.depthAll]
  omega
theorem keyVs_nums {H : Hp} : ∀ xs : List Int, MX.KeyVs H (xs.map .num) (xs.map V.int)
  | [] => .nil
  | x :: xs => .cons (.num x) (keyVs_nums xs)
theorem PairOf.key {H : Hp} {t : Addr} {p : Node} (h : PairOf H t p) : MX.KeyV H (keyN p) (.ref t) :=
  let ⟨_, _, a, b, c⟩ := h
  .tup a (.cons (.tup b (keyVs_nums _)) (.cons (.tup c (keyVs_nums _)) .nil))
/-- all rows of some of these -/
def subs : List Int → List (List Int)
  | [] => [[]]
  | x :: xs => subs xs ++ (subs xs).map (x :: ·)
theorem subs_len : ∀ xs : List Int, (subs xs).length = 2 ^ xs.length
  | [] => rfl
  | x :: xs => by
    unfold subs
    rw [List.length_append, List.length_map, subs_len xs, List.length_cons, Nat.pow_succ]; omega
theorem mem_subs : ∀ (xs ys : List Int), xs.Pairwise (· < ·) → ys.Pairwise (· < ·) → (∀ y ∈ ys, y ∈ xs) → ys ∈ subs xs
  | [], ys, _, _, h => by
    cases ys with
    | nil => exact List.mem_singleton.mpr rfl
    | cons y ys => exact absurd (h y List.mem_cons_self) (by simp)
  | x :: xs, [], hx, _, _ => List.mem_append_left _ (mem_subs xs [] (List.pairwise_cons.mp hx).2 List.Pairwise.nil fun y h => by cases h)
  | x :: xs, y :: ys, hx, hy, h => by
    obtain ⟨hx1, hx2⟩ := List.pairwise_cons.mp hx
    obtain ⟨hy1, hy2⟩ := List.pairwise_cons.mp hy
    rcases List.mem_cons.mp (h y List.mem_cons_self) with e | m
    · subst e
      refine List.mem_append_right _ (List.mem_map.mpr ⟨ys, mem_subs xs ys hx2 hy2 fun z hz => ?_, rfl⟩)
      rcases List.mem_cons.mp (h z (List.mem_cons_of_mem _ hz)) with e | m
      · have := hy1 z hz; rw [e] at this; exact absurd this (Int.lt_irrefl _)
      · exact m
    · refine List.mem_append_left _ (mem_subs xs (y :: ys) hx2 hy fun z hz => ?_)
      rcases List.mem_cons.mp (h z hz) with e | m'
      · have a := hx1 y m
        rcases List.mem_cons.mp hz with e2 | hz
        · rw [← e2, e] at a; exact absurd a (Int.lt_irrefl _)
        · have b := hy1 z hz
          rw [e] at b
          omega
      · exact m'
/-- a node: ascending rows of states -/
structure Good (m1 m2 : Int) (p : Node) : Prop where
  a1 : p.1.Pairwise (· < ·)
  a2 : p.2.Pairwise (· < ·)
  r1 : InR m1 p.1
  r2 : InR m2 p.2
def allN (m1 m2 : Int) : List Node := (subs ((List.range m1.toNat).map Int.ofNat)).flatMap fun a => (subs ((List.range m2.toNat).map Int.ofNat)).map fun b => (a, b)
theorem range_asc (n : Nat) : ((List.range n).map Int.ofNat).Pairwise (· < ·) := List.pairwise_map.mpr (List.pairwise_lt_range.imp fun {a b} h => by show (a : Int) < (b : Int); omega)
theorem Good.mem {m1 m2 : Int} {p : Node} (h : Good m1 m2 p) : p ∈ allN m1 m2 :=
  List.mem_flatMap.mpr ⟨p.1, mem_subs _ _ (range_asc _) h.a1 fun y hy => mem_range.mpr (h.r1 y hy), List.mem_map.mpr ⟨p.2, mem_subs _ _ (range_asc _) h.a2 fun y hy => mem_range.mpr (h.r2 y hy), rfl⟩⟩
theorem allN_len (m1 m2 : Int) : (allN m1 m2).length = 2 ^ m1.toNat * 2 ^ m2.toNat := by
  have aux : ∀ (as : List (List Int)) (bs : List (List Int)), (as.flatMap fun a => bs.map fun b => ((a, b) : Node)).length = as.length * bs.length := fun as bs => by
    induction as with
    | nil => rw [List.flatMap_nil, List.length_nil, List.length_nil, Nat.zero_mul]
    | cons a as ih => rw [List.flatMap_cons, List.length_append, ih, List.length_map, List.length_cons, Nat.succ_mul]; omega
  unfold allN
  rw [aux, subs_len, subs_len, List.length_map, List.length_map, List.length_range, List.length_range]
/-- so many nodes at most -/
theorem nodes_few {m1 m2 : Int} (h1 : m1 ≤ 8) (h2 : m2 ≤ 8) {ps : List Node} (nd : ps.Nodup) (good : ∀ p ∈ ps, Good m1 m2 p) : ps.length ≤ 65536 := by
  have z := short_any nd fun p hp => (good p hp).mem
  rw [allN_len] at z
  have a : 2 ^ m1.toNat ≤ 2 ^ 8 := Nat.pow_le_pow_right (by decide) (by omega)
  have b : 2 ^ m2.toNat ≤ 2 ^ 8 := Nat.pow_le_pow_right (by decide) (by omega)
  exact Nat.le_trans z (Nat.le_trans (Nat.mul_le_mul a b) (by decide))
end K1
end
section
/-! What judge_alike keeps while it searches. -/
namespace K1
open PySem L2
open MX (Rise Up)
theorem good_start (ts1 ts2 : List Stp) (m1 m2 : Int) : Good m1 m2 (startN ts1 ts2 m1 m2) := ⟨spr_asc, spr_asc, spr_inr, spr_inr⟩
theorem good_step {ts1 ts2 : List Stp} {m1 m2 : Int} (p : Node) (d : Str) : Good m1 m2 (stpN ts1 ts2 m1 m2 p d) := ⟨spr_asc, spr_asc, spr_inr, spr_inr⟩
theorem at_mem {kvs : List MX.EntX} {k : PySem.NestedKey} : (MX.atX kvs k).isSome = true ↔ k ∈ kvs.map (·.1) := by
  unfold MX.atX
  rw [Option.isSome_map, List.find?_isSome]
  constructor
  · rintro ⟨x, hx, e⟩
    exact List.mem_map.mpr ⟨x, hx, of_decide_eq_true e⟩
  · intro h
    obtain ⟨x, hx, e⟩ := List.mem_map.mp h
    exact ⟨x, hx, decide_eq_true e⟩
/-- pairs at a list -/
def PairsAt (H : Hp) (PL : Addr) (ps : List Node) : Prop := ∃ as : List Addr, H PL = some (.lst (as.map V.ref)) ∧ as.length = ps.length ∧ ∀ (i : Nat) (t : Addr) (p : Node), as[i]? = some t → ps[i]? = some p → PairOf H t p
structure JS (P : Program) (w : World) (H0 H : Hp) (PL OR KN : Addr) (ps : List Node) (os : List (Option (Nat × Str))) : Prop where
  same : Same H0 H
  pl : PairsAt H PL ps
  org : OrgAt H OR os
  kn : ∃ kvs : List MX.EntX, H KN = some (MX.DictXO P w KN kvs) ∧ MX.KeysX H kvs ∧ kvs.map (·.1) = ps.map keyN
  ne : PL ≠ OR
  n1 : H0 PL = none
  n2 : H0 OR = none
  n3 : H0 KN = none
theorem PairsAt.same {H H' : Hp} {PL : Addr} {ps : List Node} (h : PairsAt H PL ps) (e : Same H H') : PairsAt H' PL ps := let ⟨as, a, b, c⟩ := h; ⟨as, e _ _ a, b, fun i t p q r => (c i t p q r).same e⟩
theorem JS.same_ {P : Program} {w : World} {H0 H H' : Hp} {PL OR KN : Addr} {ps : List Node} {os : List (Option (Nat × Str))} (J : JS P w H0 H PL OR KN ps os) (e : Same H H') : JS P w H0 H' PL OR KN ps os :=
  ⟨J.same.trans e, J.pl.same e, J.org.same e, let ⟨kvs, a, b, c⟩ := J.kn; ⟨kvs, e _ _ a, b.same fun x o z => e x o z, c⟩, J.ne, J.n1, J.n2, J.n3⟩
/-- what changes no tuple leaves pairs and keys -/
def TupSame (H H' : Hp) : Prop := ∀ b xs, H b = some (.tup xs) → H' b = some (.tup xs)
theorem PairOf.tup {H H' : Hp} {t : Addr} {p : Node} (h : PairOf H t p) (e : TupSame H H') : PairOf H' t p := let ⟨l, k, a, b, c⟩ := h; ⟨l, k, e _ _ a, e _ _ b, e _ _ c⟩
mutual
theorem keyV_tup {H H' : Hp} (e : TupSame H H') : ∀ (k : PySem.NestedKey) (v : V), MX.KeyV H k v → MX.KeyV H' k v
  | .none, _, h => by cases h; exact .non
  | .num _, _, h => by cases h; exact .num _
  | .text _, _, h => by cases h; exact .text _
  | .tup ks, _, h => by
    cases h with
    | tup a all => exact .tup (e _ _ a) (keyVs_tup e ks _ all)
theorem keyVs_tup {H H' : Hp} (e : TupSame H H') : ∀ (ks : List PySem.NestedKey) (vs : List V), MX.KeyVs H ks vs → MX.KeyVs H' ks vs
  | [], _, h => by cases h; exact .nil
  | k :: ks, _, h => by
    cases h with
    | cons a b => exact .cons (keyV_tup e k _ a) (keyVs_tup e ks _ b)
end
theorem TupSame.upd {H : Hp} {a : Addr} {o u : HO} (h : H a = some u) (nt : ∀ xs, u ≠ .tup xs) : TupSame H (upd H a o) := fun b xs z => by
  rw [upd_ne fun q => by rw [q, h] at z; exact nt xs (Option.some.inj z)]; exact z
theorem TupSame.trans {H H1 H2 : Hp} (a : TupSame H H1) (b : TupSame H1 H2) : TupSame H H2 := fun c xs z => b c xs (a c xs z)
theorem TupSame.of {H H' : Hp} (e : Same H H') : TupSame H H' := fun b xs z => e _ _ z
theorem get_snoc {α β : Type} {xs : List α} {ys : List β} {x : α} {y : β} (hl : xs.length = ys.length) {p : α → β → Prop} (h : ∀ (i : Nat) (a : α) (b : β), xs[i]? = some a → ys[i]? = some b → p a b) (hx : p x y) : ∀ (i : Nat) (a : α) (b : β), (xs ++ [x])[i]? = some a → (ys ++ [y])[i]? = some b → p a b := fun i a b ha hb => by
  rcases Nat.lt_or_ge i xs.length with lt | ge
  · rw [List.getElem?_append_left lt] at ha
    rw [List.getElem?_append_left (by omega)] at hb
    exact h i a b ha hb
  · rw [List.getElem?_append_right ge] at ha
    rw [List.getElem?_append_right (by omega), ← hl] at hb
    have : i - xs.length = 0 := by
      have := (List.getElem?_eq_some_iff.mp ha).1
      simp at this; omega
    rw [this] at ha hb
    cases ha; cases hb; exact hx
section
variable {P : Program} {w : World} {H0 H : Hp} {PL OR KN : Addr} {ps : List Node} {os : List (Option (Nat × Str))}
/-- a new node: into the dict -/
theorem JS.know (J : JS P w H0 H PL OR KN ps os) {B : Addr} {q : Node} {kvs : List MX.EntX} (hq : PairOf H B q) (hk : H KN = some (MX.DictXO P w KN kvs)) (keys : MX.KeysX H kvs) (ek : kvs.map (·.1) = ps.map keyN) (new : q ∉ ps) {v : V} :
    Same H0 (upd H KN (MX.DictXO P w KN (MX.putX kvs (keyN q) B v))) ∧ PairsAt (upd H KN (MX.DictXO P w KN (MX.putX kvs (keyN q) B v))) PL ps ∧ OrgAt (upd H KN (MX.DictXO P w KN (MX.putX kvs (keyN q) B v))) OR os ∧
      MX.KeysX (upd H KN (MX.DictXO P w KN (MX.putX kvs (keyN q) B v))) (MX.putX kvs (keyN q) B v) ∧ (MX.putX kvs (keyN q) B v).map (·.1) = (ps ++ [q]).map keyN ∧ PairOf (upd H KN (MX.DictXO P w KN (MX.putX kvs (keyN q) B v))) B q := by
  have no : ¬ (MX.atX kvs (keyN q)).isSome = true := fun z => by
    have m := at_mem.mp z
    rw [ek] at m
    obtain ⟨p, hp, e⟩ := List.mem_map.mp m
    exact new (keyN_inj e ▸ hp)
  have ep : MX.putX kvs (keyN q) B v = kvs ++ [(keyN q, B, v)] := by unfold MX.putX; rw [if_neg no]
  have ts : TupSame H (upd H KN (MX.DictXO P w KN (MX.putX kvs (keyN q) B v))) := .upd hk fun xs z => by cases z
  have keep : ∀ b o, H b = some o → b ≠ KN → (upd H KN (MX.DictXO P w KN (MX.putX kvs (keyN q) B v))) b = some o := fun b o z n => by rw [upd_ne n]; exact z
  obtain ⟨as, a1, a2, a3⟩ := J.pl
  obtain ⟨vs, o1, o2, o3⟩ := J.org.at_
  refine ⟨put_in J.same J.n3, ⟨as, keep _ _ a1 (fun z => by rw [z, hk] at a1; cases a1), a2, fun i t p x y => (a3 i t p x y).tup ts⟩, ⟨vs, keep _ _ o1 (fun z => by rw [z, hk] at o1; cases o1), o2, fun i u o x y => ?_⟩, fun x hx => ?_, ?_, hq.tup ts⟩
  · have z := o3 i u o x y
    cases o with
    | none => exact z
    | some y => exact let ⟨t, a, b⟩ := z; ⟨t, a, ts _ _ b⟩
  · rw [ep] at hx
    rcases List.mem_append.mp hx with h | h
    · exact ⟨keyV_tup ts _ _ (keys x h).1, (keys x h).2⟩
    · rw [List.mem_singleton.mp h]
      exact ⟨keyV_tup ts _ _ hq.key, keyN_deep q⟩
  · rw [ep, List.map_append, List.map_append, ek]; rfl
/-- and behind the lists -/
theorem JS.put {H1 H2 : Hp} {kvs : List MX.EntX} {as : List Addr} {vs : List V} {B T : Addr} {q : Node} {n : Nat} {d : Str} (s0 : Same H0 H1) (hA : H1 PL = some (.lst (as.map V.ref))) (la : as.length = ps.length) (pa : ∀ (i : Nat) (t : Addr) (p : Node), as[i]? = some t → ps[i]? = some p → PairOf H1 t p)
    (org : OrgAt H1 OR os) (hk : H1 KN = some (MX.DictXO P w KN kvs)) (keys : MX.KeysX H1 kvs) (ek : kvs.map (·.1) = (ps ++ [q]).map keyN) (hq : PairOf H1 B q) (ne : PL ≠ OR) (n1 : H0 PL = none) (n2 : H0 OR = none) (n3 : H0 KN = none)
    (e2 : Same (upd H1 PL (.lst (as.map V.ref ++ [.ref B]))) H2) (hO : H2 OR = some (.lst vs)) (hT : H2 T = some (.tup [.int (n : Int), .str d])) :
    JS P w H0 (upd H2 OR (.lst (vs ++ [.ref T]))) PL OR KN (ps ++ [q]) (os ++ [some (n, d)]) := by
  have k1 : Same H0 (upd H1 PL (.lst (as.map V.ref ++ [.ref B]))) := put_in s0 n1
  have t1 : TupSame H1 (upd H1 PL (.lst (as.map V.ref ++ [.ref B]))) := .upd hA fun xs z => by cases z
  have t3 : TupSame H2 (upd H2 OR (.lst (vs ++ [.ref T]))) := .upd hO fun xs z => by cases z
  have t13 : TupSame H1 (upd H2 OR (.lst (vs ++ [.ref T]))) := (t1.trans (.of e2)).trans t3
  have hk1 : (upd H1 PL (.lst (as.map V.ref ++ [.ref B]))) KN = some (MX.DictXO P w KN kvs) := by rw [upd_ne fun z => by rw [z, hA] at hk; cases hk]; exact hk
  have hk2 := e2 _ _ hk1
  have hA2 := e2 _ _ (show (upd H1 PL (.lst (as.map V.ref ++ [.ref B]))) PL = some (.lst (as.map V.ref ++ [.ref B])) from upd_same)
  obtain ⟨vs', o1, o2, o3⟩ := org.at_
  have ev : vs' = vs := by
    have z := e2 _ _ (show (upd H1 PL (.lst (as.map V.ref ++ [.ref B]))) OR = some (.lst vs') by rw [upd_ne ne.symm]; exact o1)
    rw [hO] at z
    exact (HO.lst.inj (Option.some.inj z)).symm
  subst ev
  refine ⟨put_in (k1.trans e2) n2, ⟨as ++ [B], by rw [upd_ne ne, hA2, List.map_append]; rfl, by rw [List.length_append, List.length_append, la]; rfl, get_snoc la (fun i t p x y => (pa i t p x y).tup t13) (hq.tup t13)⟩,
    ⟨vs' ++ [.ref T], upd_same, by rw [List.length_append, List.length_append, o2]; rfl, get_snoc o2 (fun i v o x y => ?_) ⟨T, rfl, t3 _ _ hT⟩⟩, ⟨kvs, by rw [upd_ne fun z => by rw [z, hO] at hk2; cases hk2]; exact hk2, fun x hx => ⟨keyV_tup t13 _ _ (keys x hx).1, (keys x hx).2⟩, ek⟩, ne, n1, n2, n3⟩
  have z := o3 i v o x y
  cases o with
  | none => exact z
  | some y => exact let ⟨t, a, b⟩ := z; ⟨t, a, t13 _ _ b⟩
end
/-- the words of the new nodes -/
theorem Led.snoc {os : List (Option (Nat × Str))} {ws : List (List Str)} {w : List Str} {n : Nat} {d : Str} (h : Led os ws) (hw : ws[n]? = some w) : Led (os ++ [some (n, d)]) (ws ++ [w ++ [d]]) := by
  have lt := (List.getElem?_eq_some_iff.mp hw).1
  have up : ∀ {i : Nat} {x : List Str}, ws[i]? = some x → (ws ++ [w ++ [d]])[i]? = some x := fun {i x} z => by rw [List.getElem?_append_left (List.getElem?_eq_some_iff.mp z).1]; exact z
  have cs : ∀ {i : Nat} {o : Option (Nat × Str)}, (os ++ [some (n, d)])[i]? = some o → os[i]? = some o ∨ (i = os.length ∧ o = some (n, d)) := fun {i o} z => by
    rcases Nat.lt_or_ge i os.length with l | g
    · rw [List.getElem?_append_left l] at z; exact .inl z
    · have b := (List.getElem?_eq_some_iff.mp z).1
      rw [List.length_append] at b
      simp at b
      have e : i = os.length := by omega
      subst e
      rw [List.getElem?_append_right (Nat.le_refl _), Nat.sub_self] at z
      cases z
      exact .inr ⟨rfl, rfl⟩
  refine ⟨by rw [List.length_append, List.length_append, h.len]; rfl, fun i z => ?_, fun i a x z => ?_, fun v hv => ?_⟩
  · rcases cs z with z | ⟨_, z⟩
    · exact up (h.none_ i z)
    · cases z
  · rcases cs z with z | ⟨e, z⟩
    · obtain ⟨l, w', a1, a2⟩ := h.some_ i a x z
      exact ⟨l, w', up a1, up a2⟩
    · cases z
      subst e
      refine ⟨by rw [← h.len]; exact lt, w, up hw, ?_⟩
      rw [← h.len, List.getElem?_append_right (Nat.le_refl _), Nat.sub_self]; rfl
  · rw [List.length_append]
    rcases List.mem_append.mp hv with m | m
    · have := h.short v m
      exact Nat.le_trans this (Nat.le_succ _)
    · rw [List.mem_singleton.mp m, List.length_append]
      have := h.short w (List.mem_of_getElem? hw)
      show w.length + 1 ≤ os.length + 1
      omega
theorem Led.start : Led [none] [[]] := by
  refine ⟨rfl, fun i z => ?_, fun i a x z => ?_, fun v hv => ?_⟩
  · cases i with
    | zero => rfl
    | succ i => simp at z
  · cases i with
    | zero => cases z
    | succ i => simp at z
  · rw [List.mem_singleton.mp hv]; exact Nat.zero_le _
end K1
end
section
/-! judge_alike. -/
namespace K1
open PySem L2
open MX (Rise Up)
structure GCl (K : PySem.W.Frag) (mg : Str → Option Value) (C : Addr) (name : Str) : Prop where
  cl : Cls K C
  g : mg name = some (.ref C)
structure TxtJ (K : PySem.W.Frag) (mg : Str → Option Value) (CO CA CU : Addr) : Prop where
  len : mg "len" = none
  bool : mg "bool" = none
  all : mg "all" = none
  set : mg "set" = none
  sorted : mg "sorted" = none
  Outlook : GCl K mg CO "Outlook"
  Alike : GCl K mg CA "Alike"
  Unlike : GCl K mg CU "Unlike"
structure At1 (K : PySem.W.Frag) (mg : Str → Option Value) (name : Str) (f : Addr) : Prop where
  g : mg name = some (.ref f)
  k : PySem.W.keepIn K (.ref f) = true
theorem some_len (xs : List Int) : (!(xs.map V.int).isEmpty) = decide (0 < xs.length) := by
  cases xs with
  | nil => rfl
  | cons x xs => rfl
theorem made_same {C x dx : Addr} {H H' : Hp} (nx : H x = none) (nd : H dx = none) (o : Off x (upd (upd H dx (.own x)) x (.ins C dx [])) H') : Same H H' := fun b u z => by
  have n1 := ne_of_none z nx
  refine o b u ?_ n1
  rw [upd_ne n1, upd_ne (ne_of_none z nd)]; exact z
/-- two machines and the kinds that are free -/
structure Two (C : Addr) (H : Hp) (p1 p2 fr : Addr) (m1 m2 : Int) (st1 st2 : List Stp) (ks : List Str) : Prop where
  one : MachAt C H p1 m1 st1
  other : MachAt C H p2 m2 st2
  ok1 : ∀ s ∈ st1, OkS m1 s
  ok2 : ∀ s ∈ st2, OkS m2 s
  low1 : 1 ≤ m1
  low2 : 1 ≤ m2
  high1 : m1 ≤ 8
  high2 : m2 ≤ 8
  few1 : st1.length < 64
  few2 : st2.length < 64
  free : H fr = some (.tup (ks.map V.str))
  fewk : ks.length < 64
  asc : Asc ks
  wk : ∀ x ∈ ks, wordS x = true
/-- alike: a search that has found all nodes and no unlikeness -/
def JuA (CA : Addr) (H : Hp) (X : Addr) (ts1 ts2 : List Stp) (m1 m2 : Int) : Prop := ∃ (dx a : Addr) (ps : List Node) (ws : List (List Str)), H X = some (.ins CA dx (aF a)) ∧ PairsAt H a ps ∧ BF.Que (stpN ts1 ts2 m1 m2) (letN ts1 ts2) okN (startN ts1 ts2 m1 m2) ps ws ps.length ∧ ps.Nodup
/-- unlike: a word that the search has come to, and what one of the two shows behind it -/
def JuU (CU : Addr) (H : Hp) (X : Addr) (ts1 ts2 : List Stp) (m1 m2 : Int) : Prop := ∃ (dx a : Addr) (ps : List Node) (ws : List (List Str)) (n : Nat) (p : Node) (u : List Str) (d : Str), H X = some (.ins CU dx (uF a (.bl (decide (0 < (aft ts1 m1 p.1 d).length))))) ∧ H a = some (.lst ((u ++ [d]).map V.str)) ∧
  BF.Que (stpN ts1 ts2 m1 m2) (letN ts1 ts2) okN (startN ts1 ts2 m1 m2) ps ws n ∧ ps[n]? = some p ∧ ws[n]? = some u ∧ d ∈ letN ts1 ts2 p ∧ ¬ okN (stpN ts1 ts2 m1 m2 p d) ∧ u.length ≤ 65536
def spJudge (C CA CU : Addr) : Sp := fun vs H Q _ => ∃ (p1 p2 fr : Addr) (m1 m2 : Int) (st1 st2 : List Stp) (ks : List Str), vs = [.ref p1, .ref p2, .ref fr] ∧ Two C H p1 p2 fr m1 m2 st1 st2 ks ∧
  ∀ (H' : Hp) (X : Addr), Same H H' → H X = none → JuA CA H' X (st1.filter (isOpen ks)) (st2.filter (isOpen ks)) m1 m2 ∨ JuU CU H' X (st1.filter (isOpen ks)) (st2.filter (isOpen ks)) m1 m2 → Q (.ref X) H'
section
variable {P : Program} {w : World} {K : PySem.W.Frag} {mg : Str → Option Value} {base : Heap} {C CO CA CU : Addr}
abbrev sJu : Stmt := top 22
abbrev nJu : List Str := ["one", "other", "free", "first", "second", "pairs", "origins", "at", "known", "low", "high", "word", "behind"]
theorem scJu : FnScope nJu ["one", "other", "free"] (defScope sJu) := ⟨rfl, rfl, rfl, by decide +kernel, rfl, by decide +kernel, by decide +kernel⟩
set_option maxHeartbeats 1000000 in
theorem ok_ju {f fF fO fS fA fW fT fIA fIU : Addr} {fd fdF fdO fdS fdA fdW fdT fdIA fdIU : FuncData} (F : Fun K "judge_alike" "judge_alike" sJu f fd) (T : TxtJ K mg CO CA CU)
    (A_check_free : At1 K mg "check_free" fF) (G_check_free : FnOk P w K mg base (L2.CX P w) 2 fF fdF ["kinds"] spFree) (b_check_free : Binds K fdF ["kinds"] [])
    (A_outlook_of : At1 K mg "outlook_of" fO) (G_outlook_of : FnOk P w K mg base CX0 3 fO fdO ["machine", "free"] (spOut C CO)) (b_outlook_of : Binds K fdO ["machine", "free"] [])
    (M_spread : Meth K CO "spread" fS) (G_spread : FnOk P w K mg base CX0 2 fS fdS ["self", "states"] (spSpread CO)) (b_spread : Binds K fdS ["self", "states"] [])
    (M_after : Meth K CO "after" fA) (G_after : FnOk P w K mg base CX0 3 fA fdA ["self", "states", "word"] (spAfter CO)) (b_after : Binds K fdA ["self", "states", "word"] [])
    (M_words_at : Meth K CO "words_at" fW) (G_words_at : FnOk P w K mg base CX0 2 fW fdW ["self", "states"] (spWordsAt CO)) (b_words_at : Binds K fdW ["self", "states"] [])
    (A_trace_to : At1 K mg "trace_to" fT) (G_trace_to : FnOk P w K mg base CX0 2 fT fdT ["origins", "at"] spTraceTo) (b_trace_to : Binds K fdT ["origins", "at"] [])
    (M_Alike : Mk K CA fIA) (G_Alike : FnOk P w K mg base CX0 1 fIA fdIA ["self", "pairs"] (spAI CA)) (b_Alike : Binds K fdIA ["self", "pairs"] [])
    (M_Unlike : Mk K CU fIU) (G_Unlike : FnOk P w K mg base CX0 1 fIU fdIU ["self", "trace", "is_first"] (spUI CU)) (b_Unlike : Binds K fdIU ["self", "trace", "is_first"] []) :
    FnOk P w K mg base (L2.CX P w) 4 f fd ["one", "other", "free"] (spJudge C CA CU) := by
  refine F.okX scJu (fun vs H Q E h => ?_) (fun cdv A outer s H vs Q E hr h => ?_)
  · obtain ⟨p1, p2, fr, m1, m2, st1, st2, ks, rfl, _⟩ := h
    rfl
  · obtain ⟨p1, p2, fr, m1, m2, st1, st2, ks, rfl, TW, k⟩ := h
    have nd := scJu.nd
    have hu1 : _ < cLine := hr.in1.units0
    have hu := hr.units
    have hr_check_free : Room 2 _ := hr.mono (by decide)
    have hr_outlook_of : Room 3 _ := hr.mono (by decide)
    have hr_spread : Room 2 _ := hr.mono (by decide)
    have hr_after : Room 3 _ := hr.mono (by decide)
    have hr_words_at : Room 2 _ := hr.mono (by decide)
    have hr_trace_to : Room 2 _ := hr.mono (by decide)
    have hr_Alike : Room 2 _ := hr.mono (by decide)
    have hr_Unlike : Room 2 _ := hr.mono (by decide)
    refine ⟨_, (pss_cons (ps_expr (pe_callS G_check_free hr_check_free (by rfl) A_check_free.g A_check_free.k b_check_free (E := fun _ => E) (fun σ => passAt (takes_of rfl rfl rfl rfl) σ) (pa_cons (pv 2) pa_nil)))
      (PSs.nox (pss_cons (ps_par (i := 3) (j := 4) (by rfl) nd rfl rfl (by decide) rfl rfl (pa_cons (pe_call G_outlook_of hr_outlook_of (by rfl) A_outlook_of.g A_outlook_of.k b_outlook_of .nil pass0 (pa_cons (pv 0) (pa_cons (pv 2) pa_nil))) (pa_cons (pe_call G_outlook_of hr_outlook_of (by rfl) A_outlook_of.g A_outlook_of.k b_outlook_of .nil pass0 (pa_cons (pv 1) (pa_cons (pv 2) pa_nil))) pa_nil)) (by rfl))
      (pss_cons (ps_par3 (i := 5) (j := 6) (l := 7) (by rfl) nd rfl rfl rfl (by decide) (by decide) (by decide) rfl rfl rfl (pa_cons (pe_lst (pa_cons (pe_tup (pa_cons (pe_meth (pv 3) T.Outlook.cl M_spread G_spread hr_spread b_spread .nil pass0 (pa_cons (pe_lst (pa_cons pe_int pa_nil)) pa_nil)) (pa_cons (pe_meth (pv 4) T.Outlook.cl M_spread G_spread hr_spread b_spread .nil pass0 (pa_cons (pe_lst (pa_cons pe_int pa_nil)) pa_nil)) pa_nil))) pa_nil)) (pa_cons (pe_lst (pa_cons pe_non pa_nil)) (pa_cons pe_int pa_nil))) (by rfl))
      (pss_cons (ps_set (i := 8) nd rfl (Or.inl rfl) (MX.pe_dispX hu (pps_cons (pe_ix ix_list (pv 5) pe_int (fun _ _ => rfl)) pe_bl pps_nil) (by rfl) (by rfl) (fun z => by cases z) (by decide)))
      (pss_cons (ps_while PassesOwn.never (pt_cmpR op_lt (pv 7) (pe_callB call_len_seq (by rfl) T.len PySem.boot_len (pa_cons (pv 5) pa_nil)) (nomark _))
        (pss_cons (ps_asg (pe_ix ix_list (pv 5) (pv 7) (fun _ _ => rfl)) (pg_tup rfl (pgs_cons (pg_name (i := 9) nd rfl (Or.inl rfl)) (pgs_cons (pg_name (i := 10) nd rfl (Or.inl rfl)) pgs_nil))))
        (pss_cons (ps_for PassesOwn.never rfl (pi_list (pe_callB (MX.cr_sortedQ rfl hu) (by rfl) T.sorted (by decide +kernel) (pa_cons (pe_callTy (MX.cr_setQ rfl hu) (by rfl) T.set (by decide +kernel) (pa_cons (pe_op op_cat (pe_meth (pv 3) T.Outlook.cl M_words_at G_words_at hr_words_at b_words_at .nil pass0 (pa_cons (pv 9) pa_nil)) (pe_meth (pv 4) T.Outlook.cl M_words_at G_words_at hr_words_at b_words_at .nil pass0 (pa_cons (pv 10) pa_nil))) pa_nil)) pa_nil))) (pg_name (i := 11) nd rfl (Or.inl rfl))
          (pss_cons (ps_set (i := 12) nd rfl (Or.inl rfl) (pe_tup (pa_cons (pe_meth (pv 3) T.Outlook.cl M_after G_after hr_after b_after .nil pass0 (pa_cons (pv 9) (pa_cons (pv 11) pa_nil))) (pa_cons (pe_meth (pv 4) T.Outlook.cl M_after G_after hr_after b_after .nil pass0 (pa_cons (pv 10) (pa_cons (pv 11) pa_nil))) pa_nil))))
          (pss_cons (ps_if (PW.pt (pw_or (pt_not (pt_truth (pe_ix ix_tup (pv 12) pe_int (fun _ _ => rfl)) (by intro _; rfl))) (pw_or1 (pt_not (pt_truth (pe_ix ix_tup (pv 12) pe_int (fun _ _ => rfl)) (by intro _; rfl))))))
            (pss_one (ps_ret (pe_make M_Unlike G_Unlike hr_Unlike (by rfl) T.Unlike.g b_Unlike .nil pass0 (pa_cons (pe_op op_cat (pe_call G_trace_to hr_trace_to (by rfl) A_trace_to.g A_trace_to.k b_trace_to .nil pass0 (pa_cons (pv 6) (pa_cons (pv 7) pa_nil))) (pe_lst (pa_cons (pv 11) pa_nil))) (pa_cons (pe_callTy MX.call_boolT (by rfl) T.bool (by decide +kernel) (pa_cons (pe_ix ix_tup (pv 12) pe_int (fun _ _ => rfl)) pa_nil)) pa_nil)))))
            pss_nil)
          (pss_one (ps_if (pt_cmpR (MX.op_notInX hu) (pv 12) (pv 8) rfl)
            (pss_cons (MX.ps_putX hu (pv 8) (pv 12) pe_bl rfl)
            (pss_cons (ps_expr (pe_bm PySem.F.plainAttrs_list PySem.F.slot_list_append PySem.F.type_list_append mt_append (pv 5) (pa_cons (pv 12) pa_nil)))
            (pss_one (ps_expr (pe_bm PySem.F.plainAttrs_list PySem.F.slot_list_append PySem.F.type_list_append mt_append (pv 6) (pa_cons (pe_tup (pa_cons (pv 7) (pa_cons (pv 11) pa_nil))) pa_nil))))))
            pss_nil)))))
        (pss_one (ps_aug (i := 7) nd rfl (Or.inl rfl) pe_int ip_add)))))
      (pss_one (ps_ret (pe_make M_Alike G_Alike hr_Alike (by rfl) T.Alike.g b_Alike .nil pass0 (pa_cons (pv 5) pa_nil)))))))))), ?_⟩
    have sub1 : ∀ s ∈ st1.filter (isOpen ks), OkS m1 s := fun s hs => TW.ok1 s (List.mem_filter.mp hs).1
    have sub2 : ∀ s ∈ st2.filter (isOpen ks), OkS m2 s := fun s hs => TW.ok2 s (List.mem_filter.mp hs).1
    have len1 : (st1.filter (isOpen ks)).length < 64 := Nat.lt_of_le_of_lt (List.length_filter_le _ _) TW.few1
    have len2 : (st2.filter (isOpen ks)).length < 64 := Nat.lt_of_le_of_lt (List.length_filter_le _ _) TW.few2
    have hi1 := TW.high1
    have hi2 := TW.high2
    refine into ⟨_, rfl, fr, ks, rfl, TW.free, TW.fewk, TW.asc, TW.wk, fun H1 e1 => ?_⟩
    refine into ⟨_, rfl, _, rfl, p1, fr, m1, st1, ks, rfl, TW.one.same e1, TW.ok1, TW.low1, by omega, TW.few1, e1 _ _ TW.free, fun H2 f1 e2 O1 => ?_⟩
    refine ⟨_, rfl, _, rfl, p2, fr, m2, st2, ks, rfl, (TW.other.same e1).same e2, TW.ok2, TW.low2, by omega, TW.few2, e2 _ _ (e1 _ _ TW.free), fun H3 f2 e3 O2 => ⟨_, _, rfl, ?_⟩⟩
    have O1' := O1.same e3
    generalize hts1 : st1.filter (isOpen ks) = ts1 at *
    generalize hts2 : st2.filter (isOpen ks) = ts2 at *
    have e03 : Same H H3 := (e1.trans e2).trans e3
    have look : ∀ {H' : Hp} {r : Addr} {m : Int} {ts : List Stp}, OutAt CO H' r m ts → ∃ dx uA wA, H' r = some (.ins CO dx (oFlds uA wA)) := fun ⟨dx, uA, wA, _, _, h, _⟩ => ⟨dx, uA, wA, h⟩
    have zero1 : InR m1 [0] := fun x hx => by rw [List.mem_singleton.mp hx]; have := TW.low1; omega
    have zero2 : InR m2 [0] := fun x hx => by rw [List.mem_singleton.mp hx]; have := TW.low2; omega
    obtain ⟨dx1, uA1, wA1, hf1⟩ := look O1'
    refine into ⟨_, rfl, f1, dx1, _, rfl, hf1, oFlds_no (by decide +kernel), by show 1 ≤ sizeLine; decide, fun l1 nl1 => ?_⟩
    refine ⟨f1, l1, m1, ts1, [0], rfl, O1'.same (same_new nl1), sub1, by omega, .inl upd_same, by show 1 ≤ 3900; decide, zero1, fun H4 t1 e4 ht1 => ?_⟩
    have e34 : Same H3 H4 := (same_new nl1).trans e4
    have O2' := O2.same e34
    obtain ⟨dx2, uA2, wA2, hf2⟩ := look O2'
    refine ⟨_, rfl, f2, dx2, _, rfl, hf2, oFlds_no (by decide +kernel), by show 1 ≤ sizeLine; decide, fun l2 nl2 => ?_⟩
    refine ⟨f2, l2, m2, ts2, [0], rfl, O2'.same (same_new nl2), sub2, by omega, .inl upd_same, by show 1 ≤ 3900; decide, zero2, fun H5 t2 e5 ht2 => ?_⟩
    have e45 : Same H4 H5 := (same_new nl2).trans e5
    have ht1' := e45 _ _ ht1
    refine ⟨by show 2 ≤ sizeLine; decide, fun P0 nP0 => ⟨by show 1 ≤ sizeLine; decide, fun PL nPL => ⟨by show 1 ≤ sizeLine; decide, fun OR nOR => ⟨_, _, _, rfl, ?_⟩⟩⟩⟩
    have e6 : Same H5 (upd H5 P0 (.tup [.ref t1, .ref t2])) := same_new nP0
    have e7 : Same (upd H5 P0 (.tup [.ref t1, .ref t2])) (upd (upd H5 P0 (.tup [.ref t1, .ref t2])) PL (.lst [.ref P0])) := same_new nPL
    have e8 : Same (upd (upd H5 P0 (.tup [.ref t1, .ref t2])) PL (.lst [.ref P0])) (upd (upd (upd H5 P0 (.tup [.ref t1, .ref t2])) PL (.lst [.ref P0])) OR (.lst [.non])) := same_new nOR
    have po : PairOf (upd (upd (upd H5 P0 (.tup [.ref t1, .ref t2])) PL (.lst [.ref P0])) OR (.lst [.non])) P0 (startN ts1 ts2 m1 m2) := ⟨t1, t2, e8 _ _ (e7 _ _ upd_same), e8 _ _ (e7 _ _ (e6 _ _ ht1')), e8 _ _ (e7 _ _ (e6 _ _ ht2))⟩
    have hPL := e8 _ _ (show (upd (upd H5 P0 (.tup [.ref t1, .ref t2])) PL (.lst [.ref P0])) PL = some (.lst [.ref P0]) from upd_same)
    have hOR : (upd (upd (upd H5 P0 (.tup [.ref t1, .ref t2])) PL (.lst [.ref P0])) OR (.lst [.non])) OR = some (.lst [.non]) := upd_same
    have nePO : PL ≠ OR := fun z => by rw [← z, upd_same] at nOR; cases nOR
    have e05 : Same H H5 := e03.trans (e34.trans e45)
    have back : ∀ {Ha Hb : Hp} {z : Addr}, Same Ha Hb → Hb z = none → Ha z = none := fun {Ha Hb z} e n => by
      cases q : Ha z with
      | none => rfl
      | some o => rw [e _ _ q] at n; cases n
    have b1 : H5 PL = none := back e6 nPL
    have b2 : H5 OR = none := back (e6.trans e7) nOR
    have e58 := (e6.trans e7).trans e8
    have O1s := O1'.same (e34.trans e45)
    have O2s := O2'.same e45
    generalize (upd (upd (upd H5 P0 (.tup [.ref t1, .ref t2])) PL (.lst [.ref P0])) OR (.lst [.non])) = H8 at e58 po hPL hOR
    clear e6 e7 e8 ht1' ht1 ht2 nP0 nPL nOR e45 e34 e4 e5
    refine into ?_
    intro KN nKN
    have e9 : Same H8 (upd H8 KN (MX.DictXO P w KN [])) := same_new nKN
    have hK9 : (upd H8 KN (MX.DictXO P w KN [])) KN = some (MX.DictXO P w KN []) := upd_same
    refine ⟨_, rfl, PL, _, _, .ref P0, rfl, rfl, SqL.of (e9 _ _ hPL), atI_nat (j := 0) rfl, hK9, P0, keyN (startN ts1 ts2 m1 m2), .bl true, rfl, (po.same e9).key, keyN_deep _, ?_⟩
    have J0 : JS P w H5 (upd (upd H8 KN (MX.DictXO P w KN [])) KN (MX.DictXO P w KN [(keyN (startN ts1 ts2 m1 m2), P0, .bl true)])) PL OR KN [startN ts1 ts2 m1 m2] [none] := by
      have ts9 : TupSame (upd H8 KN (MX.DictXO P w KN [])) (upd (upd H8 KN (MX.DictXO P w KN [])) KN (MX.DictXO P w KN [(keyN (startN ts1 ts2 m1 m2), P0, .bl true)])) := .upd hK9 fun xs z => by cases z
      have b3 : H5 KN = none := back e58 nKN
      have ne1 : PL ≠ KN := fun z => by rw [z, nKN] at hPL; cases hPL
      have ne2 : OR ≠ KN := fun z => by rw [z, nKN] at hOR; cases hOR
      refine ⟨put_in (e58.trans e9) b3, ⟨[P0], by rw [upd_ne ne1]; exact e9 _ _ hPL, rfl, fun i t p a b => ?_⟩, ⟨[.non], by rw [upd_ne ne2]; exact e9 _ _ hOR, rfl, fun i v o a b => ?_⟩, ⟨_, upd_same, fun x hx => ?_, rfl⟩, nePO, b1, b2, b3⟩
      · cases i with
        | zero => cases a; cases b; exact (po.same e9).tup ts9
        | succ i => simp at a
      · cases i with
        | zero => cases a; cases b; rfl
        | succ i => simp at a
      · rw [List.mem_singleton.mp hx]
        exact ⟨keyV_tup ts9 _ _ (po.same e9).key, keyN_deep _⟩
    clear hPL hOR po hK9 e9
    refine into ⟨fun m σ H' => ∃ (n : Nat) (ps : List Node) (os : List (Option (Nat × Str))) (ws : List (List Str)) (v9 v10 v11 v12 : Option V), σ = [some (.ref p1), some (.ref p2), some (.ref fr), some (.ref f1), some (.ref f2), some (.ref PL), some (.ref OR), some (.int (n : Int)), some (.ref KN), v9, v10, v11, v12] ∧ JS P w H5 H' PL OR KN ps os ∧
      BF.Que (stpN ts1 ts2 m1 m2) (letN ts1 ts2) okN (startN ts1 ts2 m1 m2) ps ws n ∧ Led os ws ∧ os.length = ps.length ∧ ps.Nodup ∧ (∀ p ∈ ps, Good m1 m2 p) ∧ n ≤ ps.length ∧ m + n = 65536, ⟨65536, 0, _, _, [[]], none, none, none, none, rfl, J0, .start, .start, rfl, by simp, fun p hp => by rw [List.mem_singleton.mp hp]; exact good_start _ _ _ _, Nat.zero_le _, rfl⟩, ?_⟩
    rintro m σ H6 ⟨n, ps, os, ws, v9, v10, v11, v12, rfl, J, q, led, lo, nod, good, le, mn⟩
    obtain ⟨as, a1, a2, a3⟩ := id J.pl
    have few := nodes_few hi1 hi2 nod good
    refine ⟨_, rfl, _, rfl, PL, _, rfl, .inl (SqL.of a1), _, _, rfl, rfl, _, rfl, ?_⟩
    rw [List.length_map, a2]
    by_cases lt : (n : Int) < ps.length
    · have pl : n < ps.length := by omega
      obtain ⟨p, hp⟩ : ∃ p, ps[n]? = some p := ⟨_, List.getElem?_eq_getElem pl⟩
      obtain ⟨t, ht⟩ : ∃ t, as[n]? = some t := ⟨_, List.getElem?_eq_getElem (by rw [a2]; exact pl)⟩
      obtain ⟨u, hu'⟩ : ∃ u, ws[n]? = some u := ⟨_, List.getElem?_eq_getElem (by rw [q.len]; exact pl)⟩
      obtain ⟨l, h, p1', p2', p3'⟩ := a3 n t p ht hp
      have gp := good p (List.mem_of_getElem? hp)
      have O16 := O1s.same J.same
      have O26 := O2s.same J.same
      obtain ⟨dx1, uA1, wA1, hf1⟩ := look O16
      obtain ⟨dx2, uA2, wA2, hf2⟩ := look O26
      refine iteT' (decide_eq_true lt) ⟨_, fun σ' H' z => ⟨m - 1, by omega, z⟩, ?_⟩
      refine into ⟨_, rfl, _, rfl, PL, _, _, .ref t, rfl, rfl, SqL.of a1, atI_nat (by rw [List.getElem?_map, ht]; rfl), t, _, rfl, SqT.of p1', rfl, _, _, rfl, _, _, rfl, rfl, ?_⟩
      refine into ⟨_, rfl, f1, dx1, _, rfl, hf1, oFlds_no (by decide +kernel), _, rfl, f1, l, m1, ts1, p.1, rfl, O16, sub1, len1, by omega, p2', asc_nodup gp.a1, gp.r1, fun H7 W1 w1 e7 nW1 hW1 up1 mem1 => ?_⟩
      refine ⟨_, rfl, f2, dx2, _, rfl, e7 _ _ hf2, oFlds_no (by decide +kernel), _, rfl, f2, h, m2, ts2, p.2, rfl, O26.same e7, sub2, len2, by omega, e7 _ _ p3', asc_nodup gp.a2, gp.r2, fun H10 W2 w2 e10 nW2 hW2 up2 mem2 => ?_⟩
      have fewW : ∀ {ts : List Stp} {ns : List Int} {wl : List Str}, Up (wl.map Sum.inr) → (∀ x, x ∈ wl ↔ WordsAt ts ns x) → ts.length < 64 → wl.length ≤ 64 := fun {ts ns wl} up mem l64 => by
        have nd1 : (wl.map (Sum.inr : Str → Key)).Nodup := up.imp fun {a b} hab e => by rw [e, MX.kl_irrefl] at hab; cases hab
        have nd2 : wl.Nodup := (List.pairwise_map.mp nd1).imp fun ne e => ne (by rw [e])
        have z := short_any (m := ts.map Stp.s) nd2 fun x hx => by
          obtain ⟨t, tm, ex, _⟩ := (mem x).mp hx
          exact List.mem_map.mpr ⟨t, tm, ex⟩
        rw [List.length_map] at z; omega
      have lw1 := fewW up1 mem1 len1
      have lw2 := fewW up2 mem2 len2
      refine ⟨W1, W2, _, _, rfl, rfl, e10 _ _ hW1, hW2, by rw [List.length_map, List.length_map, sizeLine_eq]; omega, fun q1 nq1 => ?_⟩
      have e11 : Same H10 (upd H10 q1 (.lst (w1.map V.str ++ w2.map V.str))) := same_new nq1
      have g11 : (upd H10 q1 (.lst (w1.map V.str ++ w2.map V.str))) q1 = some (.lst (((w1 ++ w2).map Sum.inr).map kV)) := by rw [upd_same, List.map_map, List.map_append]; rfl
      have e6_11 : Same H6 (upd H10 q1 (.lst (w1.map V.str ++ w2.map V.str))) := (e7.trans e10).trans e11
      generalize upd H10 q1 (.lst (w1.map V.str ++ w2.map V.str)) = H11 at e11 g11 e6_11
      refine ⟨q1, _, rfl, .inl (SqL.of g11), by rw [List.length_map, List.length_append]; omega, fun q2 S ns n3 mem lens => ?_⟩
      generalize eO : MX.SetQO (cxOf (CX P w) P w K mg base nJu "judge_alike" (defScope sJu) f cdv A outer s H E).nox.prog (cxOf (CX P w) P w K mg base nJu "judge_alike" (defScope sJu) f cdv A outer s H E).nox.w q2 S ns = OO
      have e12 : Same H11 (upd H11 q2 OO) := same_new n3
      have inS : ∀ kk, S kk = true → ∃ x, kk = .inr x ∧ (x ∈ w1 ∨ x ∈ w2) := fun kk hk => by
        obtain ⟨x, hx, e⟩ := List.mem_map.mp ((mem kk).mp hk)
        exact ⟨x, e.symm, List.mem_append.mp hx⟩
      refine ⟨q2, S, ns, false, rfl, by rw [upd_same, ← eO], fun kk hk => by obtain ⟨x, rfl, _⟩ := inS kk hk; rfl, fun M q3 up memM lenM nq3 => ?_⟩
      obtain ⟨wl, rfl⟩ := words_of up fun kk hk => let ⟨x, e, _⟩ := inS kk ((memM kk).mp hk); ⟨x, e⟩
      have inW : ∀ x, x ∈ wl ↔ x ∈ letN ts1 ts2 p := fun x => by
        rw [mem_letN, ← mem1, ← mem2]
        constructor
        · intro hx
          obtain ⟨y, e, m⟩ := inS (.inr x) ((memM _).mp (List.mem_map.mpr ⟨x, hx, rfl⟩))
          rw [Sum.inr.inj e]; exact m
        · intro hx
          obtain ⟨y, hy, e⟩ := List.mem_map.mp ((memM (.inr x)).mpr ((mem _).mpr (List.mem_map.mpr ⟨x, List.mem_append.mpr hx, rfl⟩)))
          rw [← Sum.inr.inj e]; exact hy
      have e13 : Same (upd H11 q2 OO) (upd (upd H11 q2 OO) q3 (.lst ((wl.map Sum.inr).map kV))) := same_new nq3
      have e6_13 : Same H6 (upd (upd H11 q2 OO) q3 (.lst ((wl.map Sum.inr).map kV))) := (e6_11.trans e12).trans e13
      have hq3 : (upd (upd H11 q2 OO) q3 (.lst ((wl.map Sum.inr).map kV))) q3 = some (.lst (wl.map V.str)) := by rw [upd_same, List.map_map]; rfl
      have n6q : H6 q3 = none := back (e6_11.trans e12) nq3
      generalize upd (upd H11 q2 OO) q3 (.lst ((wl.map Sum.inr).map kV)) = H13 at e6_13 hq3 ⊢
      clear e13 e12 e11 e6_11 g11 nq1 n3 nq3 mem memM inS up eO hW1 hW2
      refine ⟨q3, rfl, ⟨_, SqL.of hq3⟩, ?_⟩
      have nPL : q3 ≠ PL := fun z => by rw [z, a1] at n6q; cases n6q
      obtain ⟨vs0, o1, _, _⟩ := J.org.at_
      have nOR : q3 ≠ OR := fun z => by rw [z, o1] at n6q; cases n6q
      obtain ⟨kvs0, k1, _, _⟩ := J.kn
      have nKN3 : q3 ≠ KN := fun z => by rw [z, k1] at n6q; cases n6q
      refine for_list (xs := wl.map V.str) (fun j σ H' => ∃ (ps' : List Node) (os' : List (Option (Nat × Str))) (ws' : List (List Str)) (v11 v12 : Option V), σ = [some (.ref p1), some (.ref p2), some (.ref fr), some (.ref f1), some (.ref f2), some (.ref PL), some (.ref OR), some (.int (n : Int)), some (.ref KN), some (.ref l), some (.ref h), v11, v12] ∧ JS P w H5 H' PL OR KN ps' os' ∧
        BF.Turn (stpN ts1 ts2 m1 m2) (letN ts1 ts2) okN (startN ts1 ts2 m1 m2) ps' ws' n p u (wl.take j) ∧ Led os' ws' ∧ os'.length = ps'.length ∧ ps'.Nodup ∧ (∀ p ∈ ps', Good m1 m2 p) ∧ H' q3 = some (.lst (wl.map V.str)) ∧ H' l = some (.tup (p.1.map V.int)) ∧ H' h = some (.tup (p.2.map V.int)))
        ⟨ps, os, ws, _, _, rfl, J.same_ e6_13, by rw [List.take_zero]; exact q.turn hp hu', led, lo, nod, good, hq3, e6_13 _ _ p2', e6_13 _ _ p3'⟩ (fun j σ H' _ ⟨_, _, _, _, _, _, _, _, _, _, _, _, z, _⟩ => SqL.of z) ?_ ?_
      · rintro j x σ H14 hx ⟨ps', os', ws', v11, v12, rfl, J', T', led', lo', nod', good', hq', hl', hh'⟩
        obtain ⟨d, hd, rfl⟩ := str_at hx
        have dl : d ∈ letN ts1 ts2 p := (inW d).mp (List.mem_of_getElem? hd)
        have dne : d ≠ Str.ofString "" := by
          rcases (mem_letN ts1 ts2).mp dl with ⟨_, _, _, z, _⟩ | ⟨_, _, _, z, _⟩ <;> exact z
        have O17 := O1s.same J'.same
        have O27 := O2s.same J'.same
        obtain ⟨dx3, uA3, wA3, hf3⟩ := look O17
        refine into ⟨_, rfl, f1, dx3, _, rfl, hf3, oFlds_no (by decide +kernel), _, rfl, _, rfl, f1, l, m1, ts1, p.1, d, rfl, O17, sub1, by omega, hl', asc_nodup gp.a1, gp.r1, dne, fun H15 t1 e15 ht1 => ?_⟩
        obtain ⟨dx4, uA4, wA4, hf4⟩ := look (O27.same e15)
        refine ⟨_, rfl, f2, dx4, _, rfl, hf4, oFlds_no (by decide +kernel), _, rfl, _, rfl, f2, h, m2, ts2, p.2, d, rfl, O27.same e15, sub2, by omega, e15 _ _ hh', asc_nodup gp.a2, gp.r2, dne, fun H16 t2 e16 ht2 => ⟨by show 2 ≤ sizeLine; decide, fun B nB => ?_⟩⟩
        have e17 : Same H16 (upd H16 B (.tup [.ref t1, .ref t2])) := same_new nB
        have hB : (upd H16 B (.tup [.ref t1, .ref t2])) B = some (.tup [.ref t1, .ref t2]) := upd_same
        have e14 : Same H14 (upd H16 B (.tup [.ref t1, .ref t2])) := (e15.trans e16).trans e17
        have ht1' := e17 _ _ (e16 _ _ ht1)
        have ht2' := e17 _ _ ht2
        generalize upd H16 B (.tup [.ref t1, .ref t2]) = H17 at e17 hB e14 ht1' ht2' ⊢
        have J17 := J'.same_ e14
        have po : PairOf H17 B (stpN ts1 ts2 m1 m2 p d) := ⟨t1, t2, hB, ht1', ht2'⟩
        refine into ?_
        cases c1 : ((aft ts1 m1 p.1 d).map V.int).isEmpty with
        | true =>
          have c1' : aft ts1 m1 p.1 d = [] := List.map_eq_nil_iff.mp (List.isEmpty_iff.mp c1)
          refine ⟨_, rfl, B, _, _, .ref t1, rfl, rfl, SqT.of hB, atI_nat (j := 0) rfl, false, .inr (.inl ⟨_, SqT.of ht1', by rw [c1]; rfl⟩), ?_⟩
          refine iteT (iteT ?_)
          have notok : ¬ okN (stpN ts1 ts2 m1 m2 p d) := fun z => z.1 c1'
          have nlt := (List.getElem?_eq_some_iff.mp T'.word).1
          have osl : os'.length ≤ 65536 := by rw [lo']; exact nodes_few hi1 hi2 nod' good'
          refine ⟨_, rfl, _, rfl, OR, n, os', ws', u, rfl, J17.org, led', by omega, T'.word, fun H18 L e18 nL hL => ?_⟩
          have ul := led'.short u (List.mem_of_getElem? T'.word)
          refine ⟨_, rfl, by show 1 ≤ sizeLine; decide, fun L2 nL2 => ?_⟩
          have e19 : Same H18 (upd H18 L2 (.lst [.str d])) := same_new nL2
          refine ⟨L, L2, _, _, rfl, rfl, e19 _ _ hL, upd_same, by rw [List.length_map, sizeLine_eq]; show _ + 1 ≤ _; omega, fun L3 nL3 => ?_⟩
          have e20 : Same (upd H18 L2 (.lst [.str d])) (upd (upd H18 L2 (.lst [.str d])) L3 (.lst (u.map V.str ++ [.str d]))) := same_new nL3
          have e1720 : Same H17 (upd (upd H18 L2 (.lst [.str d])) L3 (.lst (u.map V.str ++ [.str d]))) := (e18.trans e19).trans e20
          have hL3 : (upd (upd H18 L2 (.lst [.str d])) L3 (.lst (u.map V.str ++ [.str d]))) L3 = some (.lst ((u ++ [d]).map V.str)) := by rw [upd_same, List.map_append]; rfl
          generalize upd (upd H18 L2 (.lst [.str d])) L3 (.lst (u.map V.str ++ [.str d])) = H20 at e1720 hL3 ⊢
          refine ⟨_, rfl, B, _, _, .ref t1, rfl, rfl, SqT.of (e1720 _ _ hB), atI_nat (j := 0) rfl, t1, _, rfl, SqT.of (e1720 _ _ ht1'), fun x dx nx ndx ne => ?_⟩
          have keep : ∀ {b o}, H20 b = some o → (upd (upd H20 dx (.own x)) x (.ins CU dx [])) b = some o := fun {b o} z => by rw [upd_ne (ne_of_none z nx), upd_ne (ne_of_none z ndx)]; exact z
          refine ⟨x, dx, L3, _, _, rfl, upd_same, keep hL3, fun H21 dx' a' off hx' ha' na => ⟨rfl, ?_⟩⟩
          have s21 := made_same nx ndx off
          refine k H21 x ((e05.trans J17.same).trans (e1720.trans s21)) (back ((e05.trans J17.same).trans e1720) nx) (.inr ⟨dx', a', ps', ws', n, p, u, d, ?_, ha', T'.que, T'.node, T'.word, dl, notok, by omega⟩)
          rw [hx', some_len]
        | false =>
          have c1' : aft ts1 m1 p.1 d ≠ [] := fun z => by rw [z] at c1; cases c1
          refine ⟨_, rfl, B, _, _, .ref t1, rfl, rfl, SqT.of hB, atI_nat (j := 0) rfl, true, .inr (.inl ⟨_, SqT.of ht1', by rw [c1]; rfl⟩), ?_⟩
          refine iteF ?_
          cases c2 : ((aft ts2 m2 p.2 d).map V.int).isEmpty with
          | true =>
            have c2' : aft ts2 m2 p.2 d = [] := List.map_eq_nil_iff.mp (List.isEmpty_iff.mp c2)
            refine ⟨_, rfl, B, _, _, .ref t2, rfl, rfl, SqT.of hB, atI_nat (j := 1) rfl, false, .inr (.inl ⟨_, SqT.of ht2', by rw [c2]; rfl⟩), ?_⟩
            refine iteT ?_
            have notok : ¬ okN (stpN ts1 ts2 m1 m2 p d) := fun z => z.2 c2'
            have nlt := (List.getElem?_eq_some_iff.mp T'.word).1
            have osl : os'.length ≤ 65536 := by rw [lo']; exact nodes_few hi1 hi2 nod' good'
            refine ⟨_, rfl, _, rfl, OR, n, os', ws', u, rfl, J17.org, led', by omega, T'.word, fun H18 L e18 nL hL => ?_⟩
            have ul := led'.short u (List.mem_of_getElem? T'.word)
            refine ⟨_, rfl, by show 1 ≤ sizeLine; decide, fun L2 nL2 => ?_⟩
            have e19 : Same H18 (upd H18 L2 (.lst [.str d])) := same_new nL2
            refine ⟨L, L2, _, _, rfl, rfl, e19 _ _ hL, upd_same, by rw [List.length_map, sizeLine_eq]; show _ + 1 ≤ _; omega, fun L3 nL3 => ?_⟩
            have e20 : Same (upd H18 L2 (.lst [.str d])) (upd (upd H18 L2 (.lst [.str d])) L3 (.lst (u.map V.str ++ [.str d]))) := same_new nL3
            have e1720 : Same H17 (upd (upd H18 L2 (.lst [.str d])) L3 (.lst (u.map V.str ++ [.str d]))) := (e18.trans e19).trans e20
            have hL3 : (upd (upd H18 L2 (.lst [.str d])) L3 (.lst (u.map V.str ++ [.str d]))) L3 = some (.lst ((u ++ [d]).map V.str)) := by rw [upd_same, List.map_append]; rfl
            generalize upd (upd H18 L2 (.lst [.str d])) L3 (.lst (u.map V.str ++ [.str d])) = H20 at e1720 hL3 ⊢
            refine ⟨_, rfl, B, _, _, .ref t1, rfl, rfl, SqT.of (e1720 _ _ hB), atI_nat (j := 0) rfl, t1, _, rfl, SqT.of (e1720 _ _ ht1'), fun x dx nx ndx ne => ?_⟩
            have keep : ∀ {b o}, H20 b = some o → (upd (upd H20 dx (.own x)) x (.ins CU dx [])) b = some o := fun {b o} z => by rw [upd_ne (ne_of_none z nx), upd_ne (ne_of_none z ndx)]; exact z
            refine ⟨x, dx, L3, _, _, rfl, upd_same, keep hL3, fun H21 dx' a' off hx' ha' na => ⟨rfl, ?_⟩⟩
            have s21 := made_same nx ndx off
            refine k H21 x ((e05.trans J17.same).trans (e1720.trans s21)) (back ((e05.trans J17.same).trans e1720) nx) (.inr ⟨dx', a', ps', ws', n, p, u, d, ?_, ha', T'.que, T'.node, T'.word, dl, notok, by omega⟩)
            rw [hx', some_len]
          | false =>
            have c2' : aft ts2 m2 p.2 d ≠ [] := fun z => by rw [z] at c2; cases c2
            have okd : okN (stpN ts1 ts2 m1 m2 p d) := ⟨c1', c2'⟩
            refine ⟨_, rfl, B, _, _, .ref t2, rfl, rfl, SqT.of hB, atI_nat (j := 1) rfl, true, .inr (.inl ⟨_, SqT.of ht2', by rw [c2]; rfl⟩), ?_⟩
            refine iteF ?_
            unfold tNext
            dsimp only
            obtain ⟨kvs, hk, keys, ek⟩ := J17.kn
            have step : wl.take (j + 1) = wl.take j ++ [d] := by rw [List.take_add_one, hd]; rfl
            refine ⟨_, rfl, _, rfl, B, KN, keyN (stpN ts1 ts2 m1 m2 p d), kvs, rfl, rfl, po.key, keyN_deep _, .inl hk, keys, _, rfl, ?_⟩
            cases ca : (MX.atX kvs (keyN (stpN ts1 ts2 m1 m2 p d))).isSome with
            | true =>
              have m := at_mem.mp ca
              rw [ek] at m
              obtain ⟨q', hq1, hq2⟩ := List.mem_map.mp m
              rw [keyN_inj hq2] at hq1
              obtain ⟨j', hj'⟩ := List.mem_iff_getElem?.mp hq1
              exact iteF' (by simp) ⟨ps', os', ws', _, _, rfl, J17, by rw [step]; exact T'.old okd hj', led', lo', nod', good', e14 _ _ hq', e14 _ _ hl', e14 _ _ hh'⟩
            | false =>
              have newq : stpN ts1 ts2 m1 m2 p d ∉ ps' := fun z => by
                have := at_mem.mpr (show keyN (stpN ts1 ts2 m1 m2 p d) ∈ kvs.map (·.1) by rw [ek]; exact List.mem_map.mpr ⟨_, z, rfl⟩)
                rw [ca] at this; cases this
              have fewps := nodes_few hi1 hi2 nod' good'
              have kl : kvs.length = ps'.length := by have := congrArg List.length ek; rw [List.length_map, List.length_map] at this; exact this
              obtain ⟨g1, g2, g3, g4, g5, g6⟩ := J17.know po hk keys ek newq (v := .bl true)
              refine iteT' (by simp) ⟨_, rfl, _, rfl, KN, B, kvs, keyN (stpN ts1 ts2 m1 m2 p d), rfl, rfl, po.key, keyN_deep _, hk, keys, by rw [kl, sizeLine_eq]; omega, ?_⟩
              obtain ⟨as', pa1, pa2, pa3⟩ := g2
              obtain ⟨vs', po1, po2, po3⟩ := id g3.at_
              have hO19 : (upd (upd H17 KN (MX.DictXO P w KN (MX.putX kvs (keyN (stpN ts1 ts2 m1 m2 p d)) B (.bl true)))) PL (.lst (as'.map V.ref ++ [.ref B]))) OR = some (.lst vs') := by rw [upd_ne nePO.symm]; exact po1
              refine into ⟨_, rfl, .inl ⟨rfl, _, SqL.of pa1⟩, _, rfl, PL, _, _, rfl, rfl, pa1, by rw [List.length_map, pa2, sizeLine_eq]; omega, ?_⟩
              refine ⟨_, rfl, .inl ⟨rfl, _, SqL.of hO19⟩, _, rfl, _, rfl, by show 2 ≤ sizeLine; decide, fun TT nT => ?_⟩
              have eT : Same (upd (upd H17 KN (MX.DictXO P w KN (MX.putX kvs (keyN (stpN ts1 ts2 m1 m2 p d)) B (.bl true)))) PL (.lst (as'.map V.ref ++ [.ref B]))) (upd (upd (upd H17 KN (MX.DictXO P w KN (MX.putX kvs (keyN (stpN ts1 ts2 m1 m2 p d)) B (.bl true)))) PL (.lst (as'.map V.ref ++ [.ref B]))) TT (.tup [.int (n : Int), .str d])) := same_new nT
              have hO20 := eT _ _ hO19
              have tall : TupSame H17 (upd (upd (upd (upd H17 KN (MX.DictXO P w KN (MX.putX kvs (keyN (stpN ts1 ts2 m1 m2 p d)) B (.bl true)))) PL (.lst (as'.map V.ref ++ [.ref B]))) TT (.tup [.int (n : Int), .str d])) OR (.lst (vs' ++ [.ref TT]))) :=
                (((TupSame.upd hk fun xs z => by cases z).trans (.upd pa1 fun xs z => by cases z)).trans (.of eT)).trans (.upd hO20 fun xs z => by cases z)
              refine ⟨OR, _, _, rfl, rfl, hO20, by rw [po2, lo', sizeLine_eq]; omega, ps' ++ [stpN ts1 ts2 m1 m2 p d], os' ++ [some (n, d)], ws' ++ [u ++ [d]], _, _, rfl, JS.put g1 pa1 pa2 pa3 g3 upd_same g4 g5 g6 nePO b1 b2 J17.n3 eT hO20 upd_same, by rw [step]; exact T'.new dl okd, led'.snoc T'.word, by rw [List.length_append, List.length_append, lo']; rfl, List.nodup_append.mpr ⟨nod', by simp, fun x hx y hy e => ?_⟩, fun x hx => ?_, ?_, tall _ _ (e14 _ _ hl'), tall _ _ (e14 _ _ hh')⟩
              · rw [List.mem_singleton.mp hy] at e
                exact newq (e ▸ hx)
              · rcases List.mem_append.mp hx with hx | hx
                · exact good' x hx
                · rw [List.mem_singleton.mp hx]; exact good_step p d
              · rw [upd_ne nOR]
                refine eT _ _ ?_
                rw [upd_ne nPL, upd_ne nKN3]
                exact e14 _ _ hq'
      · rintro σ H14 ⟨ps', os', ws', v11, v12, rfl, J', T', led', lo', nod', good', hq', hl', hh'⟩
        rw [List.length_map, List.take_length] at T'
        have nlt := (List.getElem?_eq_some_iff.mp T'.node).1
        refine into ⟨_, rfl, _, _, rfl, rfl, n + 1, ps', os', ws', _, _, _, _, rfl, J', T'.next fun d hd => (inW d).mpr hd, led', lo', nod', good', nlt, by omega⟩
    · refine iteF' (by rw [decide_eq_false lt]; exact Bool.false_ne_true) ?_
      have en : n = ps.length := by omega
      subst en
      refine ⟨_, rfl, fun x dx nx ndx ne => ?_⟩
      have keep : ∀ {b o}, H6 b = some o → (upd (upd H6 dx (.own x)) x (.ins CA dx [])) b = some o := fun {b o} z => by rw [upd_ne (ne_of_none z nx), upd_ne (ne_of_none z ndx)]; exact z
      refine ⟨x, dx, PL, _, rfl, upd_same, keep a1, fun H7 dx' a' off hx' ha' na => ⟨rfl, ?_⟩⟩
      have s67 := made_same nx ndx off
      exact k H7 x ((e05.trans J.same).trans s67) (back (e05.trans J.same) nx) (.inl ⟨dx', a', ps, ws, hx', ⟨as, ha', a2, fun i t p x y => (a3 i t p x y).same s67⟩, q, nod⟩)
end
end K1
end
section
/-! goes_on_alike. -/
namespace K1
open PySem L2
open MX (Rise Up)
def okW (ts : List Stp) : Prop := ∀ t ∈ ts, (PyData.str t.s).canLay0 = true
theorem eqvAll_map {α : Type} [DecidableEq α] (f : α → PyData) (h : ∀ a b, PyData.eqv (f a) (f b) = decide (a = b)) : ∀ xs ys : List α, PyData.eqvAll (xs.map f) (ys.map f) = decide (xs = ys)
  | [], [] => rfl
  | [], y :: ys => by simp [PyData.eqvAll]
  | x :: xs, [] => by simp [PyData.eqvAll]
  | x :: xs, y :: ys => by
    rw [List.map_cons, List.map_cons, PyData.eqvAll, h, eqvAll_map f h xs ys]
    simp [List.cons.injEq]
theorem eqv_int (a b : Int) : PyData.eqv (.int a) (.int b) = decide (a = b) := by
  rw [PyData.eqv]
  rw [Bool.eq_iff_iff, beq_iff_eq, decide_eq_true_iff]
theorem eqv_str (a b : Str) : PyData.eqv (.str a) (.str b) = decide (a = b) := by
  rw [PyData.eqv]
  rw [Bool.eq_iff_iff, beq_iff_eq, decide_eq_true_iff]
theorem dpI {K : PySem.W.Frag} {H : Hp} : ∀ ns : List Int, DpAll K H (ns.map V.int) (ns.map .int)
  | [] => .nil
  | n :: ns => .cons (.int n) (dpI ns)
theorem dpS {K : PySem.W.Frag} {H : Hp} : ∀ ns : List Str, DpAll K H (ns.map V.str) (ns.map .str)
  | [] => .nil
  | n :: ns => .cons (.str n) (dpS ns)
theorem layI : ∀ ns : List Int, PyData.canLayAll0 (ns.map .int) = true ∧ PyData.depthAll (ns.map .int) = 0
  | [] => ⟨rfl, rfl⟩
  | n :: ns => by
    obtain ⟨a, b⟩ := layI ns
    refine ⟨?_, by rw [List.map_cons, PyData.depthAll, b]; rfl⟩
    show (PyData.canLay0 (.int n) && PyData.canLayAll0 (ns.map .int)) = true
    rw [a]; rfl
theorem layS : ∀ ns : List Str, (∀ n ∈ ns, (PyData.str n).canLay0 = true) → PyData.canLayAll0 (ns.map .str) = true ∧ PyData.depthAll (ns.map .str) = 0
  | [], _ => ⟨rfl, rfl⟩
  | n :: ns, h => by
    obtain ⟨a, b⟩ := layS ns fun m hm => h m (List.mem_cons_of_mem _ hm)
    refine ⟨?_, by rw [List.map_cons, PyData.depthAll, b]; rfl⟩
    show (PyData.canLay0 (.str n) && PyData.canLayAll0 (ns.map .str)) = true
    rw [a, h n List.mem_cons_self]; rfl
theorem shapeTI (ns : List Int) : SeqAt.shaped (.tuple (ns.map .int)) = true := by
  have e1 : PyData.canLay0 (.tuple (ns.map .int)) = true := (layI ns).1
  have e2 : PyData.depth (.tuple (ns.map .int)) = 1 := by show PyData.depthAll _ + 1 = 1; rw [(layI ns).2]
  unfold SeqAt.shaped
  rw [e1, e2]; rfl
theorem shapeLS (ns : List Str) (h : ∀ n ∈ ns, (PyData.str n).canLay0 = true) : SeqAt.shaped (.list (ns.map .str)) = true := by
  have e1 : PyData.canLay0 (.list (ns.map .str)) = true := (layS ns h).1
  have e2 : PyData.depth (.list (ns.map .str)) = 1 := by show PyData.depthAll _ + 1 = 1; rw [(layS ns h).2]
  unfold SeqAt.shaped
  rw [e1, e2]; rfl
theorem few_words {ts : List Stp} {ns : List Int} {wl : List Str} (up : Up (wl.map Sum.inr)) (mem : ∀ x, x ∈ wl ↔ WordsAt ts ns x) (l64 : ts.length < 64) : wl.length ≤ 64 := by
  have nd1 : (wl.map (Sum.inr : Str → Key)).Nodup := up.imp fun {a b} hab e => by rw [e, MX.kl_irrefl] at hab; cases hab
  have nd2 : wl.Nodup := (List.pairwise_map.mp nd1).imp fun ne e => ne (by rw [e])
  have z := short_any (m := ts.map Stp.s) nd2 fun x hx => by
    obtain ⟨t, tm, ex, _⟩ := (mem x).mp hx
    exact List.mem_map.mpr ⟨t, tm, ex⟩
  rw [List.length_map] at z; omega
/-- a pair goes on alike among others -/
def Goes (ts1 ts2 : List Stp) (m1 m2 : Int) (ps : List Node) (p : Node) : Prop :=
  spr ts1 m1 p.1 = p.1 ∧ spr ts2 m2 p.2 = p.2 ∧ (∀ x, WordsAt ts1 p.1 x ↔ WordsAt ts2 p.2 x) ∧ ∀ x, WordsAt ts1 p.1 x → stpN ts1 ts2 m1 m2 p x ∈ ps
def spGoes (P : Program) (w : World) (CO : Addr) : Sp := fun vs H Q _ => ∃ (f1 f2 t KN : Addr) (m1 m2 : Int) (ts1 ts2 : List Stp) (p : Node) (ps : List Node) (kvs : List MX.EntX), vs = [.ref f1, .ref f2, .ref t, .ref KN] ∧ OutAt CO H f1 m1 ts1 ∧ OutAt CO H f2 m2 ts2 ∧ (∀ t ∈ ts1, OkS m1 t) ∧ (∀ t ∈ ts2, OkS m2 t) ∧
  ts1.length < 64 ∧ ts2.length < 64 ∧ m1 < 60 ∧ m2 < 60 ∧ okW ts1 ∧ okW ts2 ∧ PairOf H t p ∧ Good m1 m2 p ∧ Rd H KN (MX.DictXO P w KN kvs) ∧ MX.KeysX H kvs ∧ kvs.map (·.1) = ps.map keyN ∧
  ∀ H' b, Same H H' → (b = true ↔ Goes ts1 ts2 m1 m2 ps p) → Q (.bl b) H'
section
variable {P : Program} {w : World} {K : PySem.W.Frag} {mg : Str → Option Value} {base : Heap} {C CO CA CU : Addr}
abbrev sGo : Stmt := top 21
abbrev nGo : List Str := ["first", "second", "pair", "known", "low", "high", "words", "word"]
theorem scGo : FnScope nGo ["first", "second", "pair", "known"] (defScope sGo) := ⟨rfl, rfl, rfl, by decide +kernel, rfl, by decide +kernel, by decide +kernel⟩
set_option maxHeartbeats 1000000 in
theorem ok_go {f fS fA fW : Addr} {fd fdS fdA fdW : FuncData} (F : Fun K "goes_on_alike" "goes_on_alike" sGo f fd) (T : TxtJ K mg CO CA CU)
    (M_spread : Meth K CO "spread" fS) (G_spread : FnOk P w K mg base CX0 2 fS fdS ["self", "states"] (spSpread CO)) (b_spread : Binds K fdS ["self", "states"] [])
    (M_after : Meth K CO "after" fA) (G_after : FnOk P w K mg base CX0 3 fA fdA ["self", "states", "word"] (spAfter CO)) (b_after : Binds K fdA ["self", "states", "word"] [])
    (M_words_at : Meth K CO "words_at" fW) (G_words_at : FnOk P w K mg base CX0 2 fW fdW ["self", "states"] (spWordsAt CO)) (b_words_at : Binds K fdW ["self", "states"] []) :
    FnOk P w K mg base CX0 4 f fd ["first", "second", "pair", "known"] (spGoes P w CO) := by
  refine F.ok scGo (fun vs H Q E h => ?_) (fun cdv A outer s H vs Q E hr h => ?_)
  · obtain ⟨f1, f2, t, KN, m1, m2, ts1, ts2, p, ps, kvs, rfl, _⟩ := h
    rfl
  · obtain ⟨f1, f2, t, KN, m1, m2, ts1, ts2, p, ps, kvs, rfl, O1, O2, ok1, ok2, len1, len2, hi1, hi2, w1, w2, po, good, hk, keys, ek, k⟩ := h
    have nd := scGo.nd
    have hu := hr.units
    have hr_spread : Room 2 _ := hr.mono (by decide)
    have hr_after : Room 3 _ := hr
    have hr_words_at : Room 2 _ := hr.mono (by decide)
    refine ⟨_, (pss_cons (ps_asg (pv 2) (pg_tup rfl (pgs_cons (pg_name (i := 4) nd rfl (Or.inr rfl)) (pgs_cons (pg_name (i := 5) nd rfl (Or.inr rfl)) pgs_nil))))
      (pss_cons (ps_if (PW.pt (pw_or (pt_cmpR (op_neD hu) (pe_meth (pv 0) T.Outlook.cl M_spread G_spread hr_spread b_spread .nil pass0 (pa_cons (pv 4) pa_nil)) (pv 4) (nomark _)) (pw_or1 (pt_cmpR (op_neD hu) (pe_meth (pv 1) T.Outlook.cl M_spread G_spread hr_spread b_spread .nil pass0 (pa_cons (pv 5) pa_nil)) (pv 5) (nomark _)))))
        (pss_one (ps_ret pe_bl))
        pss_nil)
      (pss_cons (ps_set (i := 6) nd rfl (Or.inl rfl) (pe_meth (pv 0) T.Outlook.cl M_words_at G_words_at hr_words_at b_words_at .nil pass0 (pa_cons (pv 4) pa_nil)))
      (pss_cons (ps_if (pt_cmpR (op_neD hu) (pv 6) (pe_meth (pv 1) T.Outlook.cl M_words_at G_words_at hr_words_at b_words_at .nil pass0 (pa_cons (pv 5) pa_nil)) (nomark _))
        (pss_one (ps_ret pe_bl))
        pss_nil)
      (pss_one (ps_ret (pe_callB (cr_all rfl) (by rfl) T.all (by decide +kernel) (pa_cons (pe_lc (own := [("word", 7)]) (by rfl) nd (pi_list (pv 6)) (blkOk_by (N := nGo) (sc := defScope sGo) (by decide +kernel)) (fun _ _ _ _ _ => (pg_name (i := 7) nd rfl (Or.inl rfl))) (fun _ _ _ _ _ => pts_nil) (fun _ _ _ _ _ => (pe_cmpR (MX.op_inXK (P := P) (w := w) rfl rfl hu) (pe_tup (pa_cons (pe_meth (pv 0) T.Outlook.cl M_after G_after hr_after b_after .nil pass0 (pa_cons (pv 4) (pa_cons (pv 7) pa_nil))) (pa_cons (pe_meth (pv 1) T.Outlook.cl M_after G_after hr_after b_after .nil pass0 (pa_cons (pv 5) (pa_cons (pv 7) pa_nil))) pa_nil))) (pv 3) rfl))) pa_nil)))))))), ?_⟩
    obtain ⟨l, h, h1, h2, h3⟩ := id po
    have look : ∀ {H' : Hp} {r : Addr} {m : Int} {ts : List Stp}, OutAt CO H' r m ts → ∃ dx uA wA, H' r = some (.ins CO dx (oFlds uA wA)) := fun ⟨dx, uA, wA, _, _, h, _⟩ => ⟨dx, uA, wA, h⟩
    have wcan : ∀ {ts : List Stp} {ns : List Int} {wl : List Str}, okW ts → (∀ x, x ∈ wl ↔ WordsAt ts ns x) → ∀ n ∈ wl, (PyData.str n).canLay0 = true := fun {ts ns wl} ok mem n hn => by
      obtain ⟨t, tm, e, _⟩ := (mem n).mp hn
      rw [← e]; exact ok t tm
    obtain ⟨dx1, uA1, wA1, hf1⟩ := look O1
    obtain ⟨dx2, uA2, wA2, hf2⟩ := look O2
    have n1 := asc_nodup good.a1
    have n2 := asc_nodup good.a2
    have few1 := few_ints n1 good.r1
    have few2 := few_ints n2 good.r2
    refine into ⟨_, rfl, t, _, rfl, SqT.of h1, rfl, _, _, rfl, _, _, rfl, rfl, ?_⟩
    refine into ⟨_, rfl, f1, dx1, _, rfl, hf1, oFlds_no (by decide +kernel), _, rfl, f1, l, m1, ts1, p.1, rfl, O1, ok1, hi1, .inr h2, by omega, good.r1, fun H3 s1 e3 hs1 => ?_⟩
    refine ⟨_, rfl, .tuple ((spr ts1 m1 p.1).map .int), .tuple (p.1.map .int), .tup (SqT.of hs1) (dpI _), .tup (SqT.of (e3 _ _ h2)) (dpI _), shapeTI _, shapeTI _, _, rfl, ?_⟩
    rw [PyData.eqv, eqvAll_map _ eqv_int]
    by_cases c1 : spr ts1 m1 p.1 = p.1
    · refine iteF' (by simp [c1]) ?_
      refine ⟨_, rfl, f2, dx2, _, rfl, e3 _ _ hf2, oFlds_no (by decide +kernel), _, rfl, f2, h, m2, ts2, p.2, rfl, O2.same e3, ok2, hi2, .inr (e3 _ _ h3), by omega, good.r2, fun H4 s2 e4 hs2 => ?_⟩
      have e34 := e3.trans e4
      refine ⟨_, rfl, .tuple ((spr ts2 m2 p.2).map .int), .tuple (p.2.map .int), .tup (SqT.of hs2) (dpI _), .tup (SqT.of (e34 _ _ h3)) (dpI _), shapeTI _, shapeTI _, _, rfl, ?_⟩
      rw [PyData.eqv, eqvAll_map _ eqv_int]
      by_cases c2 : spr ts2 m2 p.2 = p.2
      · refine iteF' (by simp [c2]) ?_
        unfold tNext
        dsimp only
        refine into ⟨_, rfl, f1, dx1, _, rfl, e34 _ _ hf1, oFlds_no (by decide +kernel), _, rfl, f1, l, m1, ts1, p.1, rfl, O1.same e34, ok1, len1, hi1, e34 _ _ h2, n1, good.r1, fun H5 L1 wl1 e5 nL1 hL1 up1 mem1 => ?_⟩
        have e35 := e34.trans e5
        refine into ⟨_, rfl, _, rfl, f2, dx2, _, rfl, e35 _ _ hf2, oFlds_no (by decide +kernel), _, rfl, f2, h, m2, ts2, p.2, rfl, O2.same e35, ok2, len2, hi2, e35 _ _ h3, n2, good.r2, fun H6 L2 wl2 e6 nL2 hL2 up2 mem2 => ?_⟩
        have e36 := e35.trans e6
        refine ⟨.list (wl1.map .str), .list (wl2.map .str), .lst (SqL.of (e6 _ _ hL1)) (dpS _), .lst (SqL.of hL2) (dpS _), shapeLS _ (wcan w1 mem1), shapeLS _ (wcan w2 mem2), _, rfl, ?_⟩
        rw [PyData.eqv, eqvAll_map _ eqv_str]
        by_cases c3 : wl1 = wl2
        · refine iteF' (by simp [c3]) ?_
          try unfold tNext
          dsimp only
          subst c3
          have hL16 := e6 _ _ hL1
          have pkey : ∀ {H' : Hp}, Same H6 H' → MX.KeysX H' kvs := fun e => keys.same fun b o z => e _ _ (e36 _ _ z)
          refine ⟨_, rfl, L1, rfl, ⟨_, SqL.of hL16⟩, fun D hD => ?_⟩
          refine walk_list (K := K) (a := L1) (xs := wl1.map V.str) (fun i H' => Same H6 H' ∧ ∃ bs : List Bool, H' D = some (.lst (bs.map V.bl)) ∧ bs.length = i ∧ (bs.all id = true ↔ ∀ x ∈ wl1.take i, stpN ts1 ts2 m1 m2 p x ∈ ps)) ⟨same_new hD, [], upd_same, rfl, ⟨(fun _ x hx => by rw [List.take_zero] at hx; cases hx), fun _ => rfl⟩⟩ (fun i H' _ z => SqL.of (z.1 _ _ hL16)) ?_ ?_
          · rintro i x H7 hx ⟨e7, bs, hb, lb, all⟩
            obtain ⟨d, hd, rfl⟩ := str_at hx
            have wd := (mem1 d).mp (List.mem_of_getElem? hd)
            have e37 := e36.trans e7
            refine ⟨rfl, _, rfl, f1, dx1, _, rfl, e37 _ _ hf1, oFlds_no (by decide +kernel), _, rfl, _, rfl, f1, l, m1, ts1, p.1, d, rfl, O1.same e37, ok1, hi1, e37 _ _ h2, n1, good.r1, wd.choose_spec.2.2.1, fun H8 t1 e8 ht1 => ?_⟩
            have e38 := e37.trans e8
            refine ⟨_, rfl, f2, dx2, _, rfl, e38 _ _ hf2, oFlds_no (by decide +kernel), _, rfl, _, rfl, f2, h, m2, ts2, p.2, d, rfl, O2.same e38, ok2, hi2, e38 _ _ h3, n2, good.r2, wd.choose_spec.2.2.1, fun H9 t2 e9 ht2 => ⟨by show 2 ≤ sizeLine; decide, fun B nB => ?_⟩⟩
            have e10 : Same H9 (upd H9 B (.tup [.ref t1, .ref t2])) := same_new nB
            have e610 : Same H6 (upd H9 B (.tup [.ref t1, .ref t2])) := ((e7.trans e8).trans e9).trans e10
            have pb : PairOf (upd H9 B (.tup [.ref t1, .ref t2])) B (stpN ts1 ts2 m1 m2 p d) := ⟨t1, t2, upd_same, e10 _ _ (e9 _ _ ht1), e10 _ _ ht2⟩
            refine ⟨_, rfl, B, KN, keyN (stpN ts1 ts2 m1 m2 p d), kvs, rfl, rfl, pb.key, keyN_deep _, ?_, pkey e610, _, ((e8.trans e9).trans e10) _ _ hb, by rw [List.length_map, lb, sizeLine_eq]; have := few_words up1 mem1 len1; have := (List.getElem?_eq_some_iff.mp hd).1; omega, put_in e610 hD, bs ++ [(MX.atX kvs (keyN (stpN ts1 ts2 m1 m2 p d))).isSome], by rw [upd_same, List.map_append]; rfl, by rw [List.length_append, lb]; rfl, ?_⟩
            · rcases hk with z | ⟨o, z⟩
              · exact .inl (e610 _ _ (e36 _ _ z))
              · exact .inr ⟨o, e610 _ _ (e36 _ _ z)⟩
            · have mem : (MX.atX kvs (keyN (stpN ts1 ts2 m1 m2 p d))).isSome = true ↔ stpN ts1 ts2 m1 m2 p d ∈ ps := by
                rw [at_mem, ek]
                exact ⟨fun z => let ⟨q, hq, e⟩ := List.mem_map.mp z; keyN_inj e ▸ hq, fun z => List.mem_map.mpr ⟨_, z, rfl⟩⟩
              rw [List.all_append, Bool.and_eq_true, all, List.take_add_one, hd]
              constructor
              · rintro ⟨a, b⟩ x hx
                rcases List.mem_append.mp hx with hx | hx
                · exact a x hx
                · rw [List.mem_singleton.mp hx]
                  refine mem.mp ?_
                  simpa using b
              · intro z
                refine ⟨fun x hx => z x (List.mem_append_left _ hx), ?_⟩
                have := mem.mpr (z d (List.mem_append_right _ (List.mem_singleton.mpr rfl)))
                simpa using this
          · rintro H7 ⟨e7, bs, hb, lb, all⟩
            rw [List.length_map, List.take_length] at all
            refine ⟨D, bs, rfl, SqL.of hb, k H7 _ (e36.trans e7) ?_⟩
            rw [all]
            exact ⟨fun z => ⟨c1, c2, fun x => (mem1 x).symm.trans (mem2 x), fun x hx => z x ((mem1 x).mpr hx)⟩, fun g x hx => g.2.2.2 x ((mem1 x).mp hx)⟩
        · refine iteT' (by simp [c3]) (k H6 false e36 ⟨fun z => (by cases z), fun g => absurd ?_ c3⟩)
          have inj : wl1.map (Sum.inr : Str → Key) = wl2.map Sum.inr := MX.up_one up1 up2 fun kk => by
            constructor <;> intro hk' <;> obtain ⟨x, hx, rfl⟩ := List.mem_map.mp hk'
            · exact List.mem_map.mpr ⟨x, (mem2 x).mpr ((g.2.2.1 x).mp ((mem1 x).mp hx)), rfl⟩
            · exact List.mem_map.mpr ⟨x, (mem1 x).mpr ((g.2.2.1 x).mpr ((mem2 x).mp hx)), rfl⟩
          exact (List.map_inj_right fun a b e => Sum.inr.inj e).mp inj
      · exact iteT' (by simp [c2]) (k H4 false e34 ⟨fun z => (by cases z), fun g => absurd g.2.1 c2⟩)
    · exact iteT' (by simp [c1]) (iteT (k H3 false e3 ⟨fun z => (by cases z), fun g => absurd g.1 c1⟩))
end
end K1
end
section
/-! What a search tells of words: the least that one shows and the other does not. -/
namespace K1
open PySem L2
theorem snocI {α : Type} {Q : List α → Prop} (h0 : Q []) (hs : ∀ xs x, Q xs → Q (xs ++ [x])) (w : List α) : Q w := by
  have aux : ∀ n (w : List α), w.length = n → Q w := fun n => by
    induction n with
    | zero => intro w hw; rw [List.eq_nil_of_length_eq_zero hw]; exact h0
    | succ n ih =>
      intro w hw
      have ne : w ≠ [] := fun z => by rw [z] at hw; cases hw
      rw [← List.dropLast_concat_getLast ne]
      exact hs _ _ (ih _ (by rw [List.length_dropLast, hw]; rfl))
  exact aux _ w rfl
section
variable {ts1 ts2 : List Stp} {m1 m2 : Int}
/-- one of the two shows the word, the other does not -/
def Diff (ts1 ts2 : List Stp) (m1 m2 : Int) (w : List Str) : Prop := decide (0 < (seen ts1 m1 w).length) ≠ decide (0 < (seen ts2 m2 w).length)
theorem go_seen : ∀ w : List Str, BF.go (stpN ts1 ts2 m1 m2) (startN ts1 ts2 m1 m2) w = (seen ts1 m1 w, seen ts2 m2 w) := fun w => by
  have aux : ∀ (w : List Str) (a b : List Int), w.foldl (stpN ts1 ts2 m1 m2) (a, b) = (w.foldl (aft ts1 m1) a, w.foldl (aft ts2 m2) b) := fun w => by
    induction w with
    | nil => intro a b; rfl
    | cons x w ih => intro a b; exact ih _ _
  exact aux w _ _
theorem aft_some {ts : List Stp} {m : Int} {ns : List Int} {x : Str} (ok : ∀ t ∈ ts, OkS m t) (h : WordsAt ts ns x) : aft ts m ns x ≠ [] := fun e => by
  obtain ⟨t, tm, ex, _, ta⟩ := h
  have o := ok t tm
  have : t.g ∈ aft ts m ns x := by
    unfold aft
    exact mem_spr.mpr ⟨⟨o.2.2.1, o.2.2.2.1⟩, t.g, mem_goals.mpr ⟨t, tm, ex, ta, rfl⟩, .refl⟩
  rw [e] at this; cases this
theorem aft_word {ts : List Stp} {m : Int} {ns : List Int} {x : Str} (ne : x ≠ Str.ofString "") (h : aft ts m ns x ≠ []) : WordsAt ts ns x := by
  obtain ⟨y, hy⟩ := List.exists_mem_of_ne_nil _ h
  unfold aft at hy
  obtain ⟨_, z, hz, _⟩ := mem_spr.mp hy
  obtain ⟨t, tm, ex, ta, _⟩ := mem_goals.mp hz
  exact ⟨t, tm, ex, ne, ta⟩
theorem aft_nil {ts : List Stp} {m : Int} {x : Str} : aft ts m [] x = [] := by
  refine List.eq_nil_iff_forall_not_mem.mpr fun y hy => ?_
  unfold aft at hy
  obtain ⟨_, z, hz, _⟩ := mem_spr.mp hy
  obtain ⟨t, _, _, ta, _⟩ := mem_goals.mp hz
  cases ta
theorem seen_pre {ts : List Stp} {m : Int} (v : List Str) : ∀ w : List Str, seen ts m (v ++ w) ≠ [] → seen ts m v ≠ [] := fun w => by
  refine snocI (Q := fun w => seen ts m (v ++ w) ≠ [] → seen ts m v ≠ []) ?_ ?_ w
  · intro h; rw [List.append_nil] at h; exact h
  · intro w x ih h
    rw [← List.append_assoc, seen_snoc] at h
    exact ih fun z => h (by rw [z]; exact aft_nil)
theorem zero_in {ts : List Stp} {m : Int} (h : 1 ≤ m) : spr ts m [0] ≠ [] := fun e => by
  have z : (0 : Int) ∈ spr ts m [0] := mem_spr.mpr ⟨⟨Int.le_refl _, by omega⟩, 0, List.mem_singleton.mpr rfl, .refl⟩
  rw [e] at z; cases z
theorem start_ok (h1 : 1 ≤ m1) (h2 : 1 ≤ m2) : okN (startN ts1 ts2 m1 m2) := ⟨zero_in h1, zero_in h2⟩
/-- a word that tells the two apart goes wrong somewhere -/
theorem diff_wrong (h1 : 1 ≤ m1) (h2 : 1 ≤ m2) : ∀ w : List Str, (∀ x ∈ w, x ≠ Str.ofString "") → (seen ts1 m1 w ≠ [] ∨ seen ts2 m2 w ≠ []) →
    (BF.Fine (stpN ts1 ts2 m1 m2) (letN ts1 ts2) okN (startN ts1 ts2 m1 m2) w ∧ okN (seen ts1 m1 w, seen ts2 m2 w)) ∨
      ∃ (v : List Str) (x : Str), v.length < w.length ∧ BF.Fine (stpN ts1 ts2 m1 m2) (letN ts1 ts2) okN (startN ts1 ts2 m1 m2) v ∧ x ∈ letN ts1 ts2 (seen ts1 m1 v, seen ts2 m2 v) ∧ ¬ okN (stpN ts1 ts2 m1 m2 (seen ts1 m1 v, seen ts2 m2 v) x) := fun w => by
  refine snocI (Q := fun w => (∀ x ∈ w, x ≠ Str.ofString "") → (seen ts1 m1 w ≠ [] ∨ seen ts2 m2 w ≠ []) → (BF.Fine (stpN ts1 ts2 m1 m2) (letN ts1 ts2) okN (startN ts1 ts2 m1 m2) w ∧ okN (seen ts1 m1 w, seen ts2 m2 w)) ∨
      ∃ (v : List Str) (x : Str), v.length < w.length ∧ BF.Fine (stpN ts1 ts2 m1 m2) (letN ts1 ts2) okN (startN ts1 ts2 m1 m2) v ∧ x ∈ letN ts1 ts2 (seen ts1 m1 v, seen ts2 m2 v) ∧ ¬ okN (stpN ts1 ts2 m1 m2 (seen ts1 m1 v, seen ts2 m2 v) x)) ?_ ?_ w
  · intro _ _; exact .inl ⟨trivial, start_ok h1 h2⟩
  · intro w x ih ne some_
    have xne := ne x (List.mem_append_right _ (List.mem_singleton.mpr rfl))
    have pre : seen ts1 m1 w ≠ [] ∨ seen ts2 m2 w ≠ [] := some_.imp (seen_pre w [x]) (seen_pre w [x])
    rcases ih (fun y hy => ne y (List.mem_append_left _ hy)) pre with ⟨fine, ok⟩ | ⟨v, y, l, rest⟩
    · have lx : x ∈ letN ts1 ts2 (seen ts1 m1 w, seen ts2 m2 w) := (mem_letN ts1 ts2).mpr (some_.imp (fun z => aft_word xne (by rw [seen_snoc] at z; exact z)) fun z => aft_word xne (by rw [seen_snoc] at z; exact z))
      rcases Classical.em (okN (stpN ts1 ts2 m1 m2 (seen ts1 m1 w, seen ts2 m2 w) x)) with o | o
      · refine .inl ⟨(BF.fine_snoc w x).mpr ⟨fine, by rw [go_seen]; exact lx, by rw [go_seen]; exact o⟩, ?_⟩
        rw [seen_snoc, seen_snoc]; exact o
      · exact .inr ⟨w, x, by rw [List.length_append]; exact Nat.lt_succ_self _, fine, lx, o⟩
    · exact .inr ⟨v, y, by rw [List.length_append]; exact Nat.lt_succ_of_lt l, rest⟩
theorem diff_some {w : List Str} (d : Diff ts1 ts2 m1 m2 w) : (seen ts1 m1 w ≠ [] ∨ seen ts2 m2 w ≠ []) ∧ ¬ okN (seen ts1 m1 w, seen ts2 m2 w) := by
  unfold Diff at d
  have pos : ∀ {xs : List Int}, 0 < xs.length ↔ xs ≠ [] := List.length_pos_iff
  constructor
  · refine Classical.byContradiction fun no => d ?_
    have n1 : seen ts1 m1 w = [] := Classical.byContradiction fun z => no (.inl z)
    have n2 : seen ts2 m2 w = [] := Classical.byContradiction fun z => no (.inr z)
    rw [n1, n2]
  · intro ok
    exact d (by rw [decide_eq_true (pos.mpr ok.1), decide_eq_true (pos.mpr ok.2)])
/-- a search that is whole: no word tells the two apart -/
theorem whole_same {ps : List Node} {ws : List (List Str)} (q : BF.Que (stpN ts1 ts2 m1 m2) (letN ts1 ts2) okN (startN ts1 ts2 m1 m2) ps ws ps.length) (h1 : 1 ≤ m1) (h2 : 1 ≤ m2) {w : List Str} (ne : ∀ x ∈ w, x ≠ Str.ofString "") : ¬ Diff ts1 ts2 m1 m2 w := fun d => by
  obtain ⟨a, b⟩ := diff_some d
  rcases diff_wrong h1 h2 w ne a with ⟨_, ok⟩ | ⟨v, x, _, fine, lx, no⟩
  · exact b ok
  · have z := q.right fine (d := x) (by rw [go_seen]; exact lx)
    rw [go_seen] at z
    exact no z
/-- the word that a search has come to is of the shortest -/
theorem found_least {ps : List Node} {ws : List (List Str)} {n : Nat} {u : List Str} (q : BF.Que (stpN ts1 ts2 m1 m2) (letN ts1 ts2) okN (startN ts1 ts2 m1 m2) ps ws n) (hu : ws[n]? = some u) (h1 : 1 ≤ m1) (h2 : 1 ≤ m2) {w : List Str} (ne : ∀ x ∈ w, x ≠ Str.ofString "") (d : Diff ts1 ts2 m1 m2 w) : u.length + 1 ≤ w.length := by
  obtain ⟨a, b⟩ := diff_some d
  rcases diff_wrong h1 h2 w ne a with ⟨_, ok⟩ | ⟨v, x, l, fine, lx, no⟩
  · exact absurd ok b
  · have z := q.least hu fine (d := x) (by rw [go_seen]; exact lx) (by rw [go_seen]; exact no)
    omega
/-- and it tells the two apart -/
theorem found_diff {ps : List Node} {ws : List (List Str)} {n : Nat} {u : List Str} {p : Node} {d : Str} (q : BF.Que (stpN ts1 ts2 m1 m2) (letN ts1 ts2) okN (startN ts1 ts2 m1 m2) ps ws n) (hp : ps[n]? = some p) (hu : ws[n]? = some u) (ok1 : ∀ t ∈ ts1, OkS m1 t) (ok2 : ∀ t ∈ ts2, OkS m2 t) (hd : d ∈ letN ts1 ts2 p) (no : ¬ okN (stpN ts1 ts2 m1 m2 p d)) :
    Diff ts1 ts2 m1 m2 (u ++ [d]) ∧ p = (seen ts1 m1 u, seen ts2 m2 u) := by
  have e := q.is n p u hp hu
  rw [go_seen] at e
  subst e
  refine ⟨?_, rfl⟩
  unfold Diff
  rw [seen_snoc, seen_snoc]
  have pos : ∀ {xs : List Int}, 0 < xs.length ↔ xs ≠ [] := List.length_pos_iff
  rcases (mem_letN ts1 ts2).mp hd with w | w
  · have s1 := aft_some ok1 w
    have n2 : ¬ aft ts2 m2 (seen ts2 m2 u) d ≠ [] := fun z => no ⟨s1, z⟩
    rw [decide_eq_true (pos.mpr s1), decide_eq_false fun z => n2 (pos.mp z)]
    exact fun z => by cases z
  · have s2 := aft_some ok2 w
    have n1 : ¬ aft ts1 m1 (seen ts1 m1 u) d ≠ [] := fun z => no ⟨z, s2⟩
    rw [decide_eq_true (pos.mpr s2), decide_eq_false fun z => n1 (pos.mp z)]
    exact fun z => by cases z
end
end K1
end
section
/-! Unlike.shows. -/
namespace K1
open PySem L2
open MX (Rise Up)
theorem word_ne {ts1 ts2 : List Stp} {p : Node} {x : Str} (h : x ∈ letN ts1 ts2 p) : x ≠ Str.ofString "" := by
  rcases (mem_letN ts1 ts2).mp h with ⟨_, _, _, z, _⟩ | ⟨_, _, _, z, _⟩ <;> exact z
theorem fine_words {ts1 ts2 : List Stp} {m1 m2 : Int} : ∀ (p : Node) (u : List Str), BF.Fine (stpN ts1 ts2 m1 m2) (letN ts1 ts2) okN p u → ∀ x ∈ u, x ≠ Str.ofString ""
  | _, [], _, x, hx => by cases hx
  | p, d :: u, h, x, hx => by
    rcases List.mem_cons.mp hx with e | hx
    · rw [e]; exact word_ne h.1
    · exact fine_words _ u h.2.2 x hx
/-- what a word shows: the one has it as told, the other has not, and no shorter word tells them apart -/
def ShowsU (ts1 ts2 : List Stp) (m1 m2 : Int) (tr : List Str) (b : Bool) : Prop :=
  decide (0 < (seen ts1 m1 tr).length) = b ∧ decide (0 < (seen ts2 m2 tr).length) ≠ b ∧ ∀ w : List Str, (∀ x ∈ w, x ≠ Str.ofString "") → Diff ts1 ts2 m1 m2 w → tr.length ≤ w.length
def spUShows (C CU : Addr) : Sp := fun vs H Q _ => ∃ (x dx a p1 p2 fr : Addr) (m1 m2 : Int) (st1 st2 : List Stp) (ks tr : List Str) (b : Bool), vs = [.ref x, .ref p1, .ref p2, .ref fr] ∧ Two C H p1 p2 fr m1 m2 st1 st2 ks ∧ H x = some (.ins CU dx (uF a (.bl b))) ∧ H a = some (.lst (tr.map V.str)) ∧ (∀ x ∈ tr, x ≠ Str.ofString "") ∧
  ∀ (H' : Hp) (r : Bool), Same H H' → (r = true ↔ ShowsU (st1.filter (isOpen ks)) (st2.filter (isOpen ks)) m1 m2 tr b) → Q (.bl r) H'
theorem Two.same {C : Addr} {H H' : Hp} {p1 p2 fr : Addr} {m1 m2 : Int} {st1 st2 : List Stp} {ks : List Str} (t : Two C H p1 p2 fr m1 m2 st1 st2 ks) (e : Same H H') : Two C H' p1 p2 fr m1 m2 st1 st2 ks :=
  ⟨t.one.same e, t.other.same e, t.ok1, t.ok2, t.low1, t.low2, t.high1, t.high2, t.few1, t.few2, e _ _ t.free, t.fewk, t.asc, t.wk⟩
section
variable {P : Program} {w : World} {K : PySem.W.Frag} {mg : Str → Option Value} {base : Heap} {C CO CA CU : Addr}
abbrev sUS : Stmt := inClass (top 17) 3
theorem scUS : FnScope ["self", "one", "other", "free"] ["self", "one", "other", "free"] (defScope sUS) := ⟨rfl, rfl, rfl, by decide +kernel, rfl, by decide +kernel, by decide +kernel⟩
theorem ok_us {f fF fI fJ : Addr} {fd fdF fdI fdJ : FuncData} (F : Fun K "shows" "Unlike.shows" sUS f fd) (T : TxtJ K mg CO CA CU) (TU : TxtAU K mg CA CU)
    (A_check_free : At1 K mg "check_free" fF) (G_check_free : FnOk P w K mg base (L2.CX P w) 2 fF fdF ["kinds"] spFree) (b_check_free : Binds K fdF ["kinds"] [])
    (A_is_trace : At1 K mg "is_trace" fI) (G_is_trace : FnOk P w K mg base (L2.CX P w) 4 fI fdI ["machine", "trace", "free"] (spIsT C)) (b_is_trace : Binds K fdI ["machine", "trace", "free"] [])
    (A_judge_alike : At1 K mg "judge_alike" fJ) (G_judge_alike : FnOk P w K mg base (L2.CX P w) 4 fJ fdJ ["one", "other", "free"] (spJudge C CA CU)) (b_judge_alike : Binds K fdJ ["one", "other", "free"] []) :
    FnOk P w K mg base (L2.CX P w) 5 f fd ["self", "one", "other", "free"] (spUShows C CU) := by
  refine F.okX scUS (fun vs H Q E h => ?_) (fun cdv A outer s H vs Q E hr h => ?_)
  · obtain ⟨x, dx, a, p1, p2, fr, m1, m2, st1, st2, ks, tr, b, rfl, _⟩ := h
    rfl
  · obtain ⟨x, dx, a, p1, p2, fr, m1, m2, st1, st2, ks, tr, b, rfl, TW, hx, ha, wne, k⟩ := h
    have nd := scUS.nd
    have hr_check_free : Room 2 _ := hr.mono (by decide)
    have hr_is_trace : Room 4 _ := hr
    have hr_judge_alike : Room 4 _ := hr
    refine ⟨_, (pss_cons (ps_expr (pe_callS G_check_free hr_check_free (by rfl) A_check_free.g A_check_free.k b_check_free (E := fun _ => E) (fun σ => passAt (takes_of rfl rfl rfl rfl) σ) (pa_cons (pv 3) pa_nil)))
      (pss_cons (ps_if (PW.pt (pw_or (pt_cmpR op_ne (pe_callS G_is_trace hr_is_trace (by rfl) A_is_trace.g A_is_trace.k b_is_trace (E := fun _ => E) (fun σ => passAt (takes_of rfl rfl rfl rfl) σ) (pa_cons (pv 1) (pa_cons (pe_fld (pv 0) rfl) (pa_cons (pv 3) pa_nil)))) (pe_fld (pv 0) rfl) (nomark _)) (pw_or1 (pt_cmpR op_eq (pe_callS G_is_trace hr_is_trace (by rfl) A_is_trace.g A_is_trace.k b_is_trace (E := fun _ => E) (fun σ => passAt (takes_of rfl rfl rfl rfl) σ) (pa_cons (pv 2) (pa_cons (pe_fld (pv 0) rfl) (pa_cons (pv 3) pa_nil)))) (pe_fld (pv 0) rfl) (nomark _)))))
        (pss_one (ps_ret pe_bl))
        pss_nil)
      (pss_one (ps_ret (pe_cmpR op_eq (pe_callB call_len_seq (by rfl) T.len PySem.boot_len (pa_cons (pe_fld (pe_callS G_judge_alike hr_judge_alike (by rfl) A_judge_alike.g A_judge_alike.k b_judge_alike (E := fun _ => E) (fun σ => passAt (takes_of rfl rfl rfl rfl) σ) (pa_cons (pv 1) (pa_cons (pv 2) (pa_cons (pv 3) pa_nil)))) rfl) pa_nil)) (pe_callB call_len_seq (by rfl) T.len PySem.boot_len (pa_cons (pe_fld (pv 0) rfl) pa_nil)) (nomark _)))))), ?_⟩
    have lt1 : m1 < 60 := by have := TW.high1; omega
    have lt2 : m2 < 60 := by have := TW.high2; omega
    have sub1 : ∀ s ∈ st1.filter (isOpen ks), OkS m1 s := fun s hs => TW.ok1 s (List.mem_filter.mp hs).1
    have sub2 : ∀ s ∈ st2.filter (isOpen ks), OkS m2 s := fun s hs => TW.ok2 s (List.mem_filter.mp hs).1
    refine into ⟨_, rfl, fr, ks, rfl, TW.free, TW.fewk, TW.asc, TW.wk, fun H1 e1 => ?_⟩
    have T1 := TW.same e1
    have hx1 := e1 _ _ hx
    refine ⟨_, rfl, _, rfl, x, _, dx, _, _, rfl, hx1, TU.clU, TU.n_trace, uF_trace, _, rfl, p1, a, fr, m1, st1, tr, ks, rfl, T1.one, T1.ok1, T1.low1, lt1, T1.few1, e1 _ _ ha, T1.free, T1.fewk, T1.asc, T1.wk, wne, fun H2 e2 => ?_⟩
    have e12 := e1.trans e2
    have T2 := TW.same e12
    refine ⟨_, rfl, x, _, dx, _, _, rfl, e2 _ _ hx1, TU.clU, TU.n_is_first, uF_first, rfl, _, rfl, ?_⟩
    by_cases c1 : decide (0 < (seen (st1.filter (isOpen ks)) m1 tr).length) = b
    · refine iteF' (by simp [c1]) ?_
      refine ⟨_, rfl, _, rfl, x, _, dx, _, _, rfl, e2 _ _ hx1, TU.clU, TU.n_trace, uF_trace, _, rfl, p2, a, fr, m2, st2, tr, ks, rfl, T2.other, T2.ok2, T2.low2, lt2, T2.few2, e12 _ _ ha, T2.free, T2.fewk, T2.asc, T2.wk, wne, fun H3 e3 => ?_⟩
      have e13 := e12.trans e3
      have T3 := TW.same e13
      refine ⟨_, rfl, x, _, dx, _, _, rfl, e13 _ _ hx, TU.clU, TU.n_is_first, uF_first, rfl, _, rfl, ?_⟩
      by_cases c2 : decide (0 < (seen (st2.filter (isOpen ks)) m2 tr).length) = b
      · exact iteT' (by simp [c2]) (k H3 false e13 ⟨fun z => (by cases z), fun g => absurd c2 g.2.1⟩)
      · refine iteF' (by simpa using c2) ?_
        have df : Diff (st1.filter (isOpen ks)) (st2.filter (isOpen ks)) m1 m2 tr := fun z => c2 (by rw [← z]; exact c1)
        try unfold tNext
        dsimp only
        refine ⟨_, rfl, _, rfl, _, rfl, p1, p2, fr, m1, m2, st1, st2, ks, rfl, T3, fun H4 X e4 nX ju => ?_⟩
        rcases ju with ⟨_, _, ps, ws, _, _, q, _⟩ | ⟨dx', a', ps, ws, n, p, u, d, hX, hA, q, hp, hu', hd, no, _⟩
        · exact absurd df (whole_same q TW.low1 TW.low2 wne)
        · have e14 := e13.trans e4
          refine ⟨X, _, dx', _, _, rfl, hX, TU.clU, TU.n_trace, uF_trace, a', _, rfl, .inl (SqL.of hA), _, rfl, x, _, dx, _, _, rfl, e14 _ _ hx, TU.clU, TU.n_trace, uF_trace, a, _, rfl, .inl (SqL.of (e14 _ _ ha)), rfl, k H4 _ e14 ?_⟩
          have une : ∀ x ∈ u ++ [d], x ≠ Str.ofString "" := fun x hx => by
            rcases List.mem_append.mp hx with h | h
            · exact fine_words _ u (q.fine n u hu') x h
            · rw [List.mem_singleton.mp h]; exact word_ne hd
          have fd' := (found_diff q hp hu' sub1 sub2 hd no).1
          have least := found_least q hu' TW.low1 TW.low2 wne df
          rw [decide_eq_true_iff]
          constructor
          · intro e
            have len : (u ++ [d]).length = tr.length := by
              have := V.int.inj e
              rw [List.length_map, List.length_map] at this; omega
            refine ⟨c1, c2, fun w ne dw => ?_⟩
            have z := found_least q hu' TW.low1 TW.low2 ne dw
            rw [List.length_append] at len
            have : [d].length = 1 := rfl
            omega
          · intro g
            have z := g.2.2 _ une fd'
            rw [List.length_append] at z
            have : [d].length = 1 := rfl
            rw [List.length_map, List.length_map, List.length_append]
            congr 1
            omega
    · exact iteT' (by simpa using c1) (iteT (k H2 false e12 ⟨fun z => (by cases z), fun g => absurd g.1 c1⟩))
end
end K1
end
section
/-! Rows of states: ascending; are_states. -/
namespace K1
open PySem L2
open MX (Rise Up)
def spAscI : Sp := fun vs H Q _ => ∃ (t : Addr) (ks : List Int), vs = [.ref t] ∧ H t = some (.tup (ks.map V.int)) ∧ ks.length < 64 ∧ ks.Pairwise (· < ·) ∧ ∀ H', Same H H' → Q (.bl true) H'
section
variable {P : Program} {w : World} {K : PySem.W.Frag} {mg : Str → Option Value} {base : Heap} {C : Addr}
theorem int_seq {ks : List Int} {i : Nat} {x : V} (h : (ks.map V.int)[i]? = some x) : ∃ q, ks[i]? = some q ∧ x = V.int q := by
  rw [List.getElem?_map] at h
  cases e : ks[i]? with
  | none => rw [e] at h; cases h
  | some g => rw [e] at h; exact ⟨g, rfl, (Option.some.inj h).symm⟩
theorem asc_loopI {K : PySem.W.Frag} {t b : Addr} {ks : List Int} {ys : List V} {H1 : Hp} {v0 : V} {R : VK} (few : ks.length < 64) (asc : ks.Pairwise (· < ·)) (ht : H1 t = some (.tup (ks.map V.int))) (hb : H1 b = some (.tup ys)) (hl : ys.length ≤ ks.length)
    (hy : ∀ i y, ys[i]? = some y → ∃ z, y = .int z ∧ ks[i + 1]? = some z) (k : ∀ H' D (bs : List Bool), Same H1 H' → H' D = some (.lst (bs.map V.bl)) → bs.all id = true → R (.ref D) H') :
    tLc (fun _ H R => R (RZ.ItzT K t b) H) (gTup K 2 (gCons (gName 1) (gCons (gName 2) gNil))) tYes (tOp (rI0 fun i j => V.bl (decide (i < j))) (tVar 1) (tVar 2)) [1, 2] [some v0, none, none] H1 R := by
  intro D hD
  refine walk_zipT (K := K) (a := t) (b := b) (xs := ks.map V.int) (ys := ys) (by rw [List.length_map]; exact hl) (fun i H' => H' D = some (.lst ((List.replicate i true).map V.bl)) ∧ Same H1 H') ⟨upd_same, same_new hD⟩ (fun i H' ⟨_, e⟩ => ⟨.inl (.inl (e _ _ ht)), .inl (.inl (e _ _ hb))⟩) ?_ ?_
  · rintro i x y T H2 hx hyi ⟨h1, e⟩ hT
    obtain ⟨z, rfl, hz⟩ := hy i y hyi
    obtain ⟨q, hq, rfl⟩ := int_seq hx
    have lt : i < ys.length := (List.getElem?_eq_some_iff.mp hyi).1
    have less : q < z := by
      obtain ⟨l1, e1⟩ := List.getElem?_eq_some_iff.mp hq
      obtain ⟨l2, e2⟩ := List.getElem?_eq_some_iff.mp hz
      have r := List.pairwise_iff_getElem.mp asc i (i + 1) l1 l2 (Nat.lt_succ_self i)
      rw [e1, e2] at r; exact r
    refine ⟨T, _, rfl, SqT.of upd_same, rfl, _, _, rfl, _, _, rfl, rfl, rfl, _, rfl, _, rfl, q, z, rfl, rfl, ?_⟩
    have eT : Same H2 (upd H2 T (.tup [V.int q, V.int z])) := same_new hT
    refine ⟨_, eT _ _ h1, by rw [List.length_map, List.length_replicate, sizeLine_eq]; omega, ?_, put_in (e.trans eT) hD⟩
    rw [upd_same, List.replicate_succ', List.map_append]
    show some (HO.lst (_ ++ [V.bl (decide (q < z))])) = _
    rw [decide_eq_true less]; rfl
  · rintro H2 ⟨h1, e⟩
    exact k H2 D _ e h1 (List.all_eq_true.mpr fun x hx => by rw [(List.mem_replicate.mp hx).2]; rfl)
set_option maxHeartbeats 1000000 in
theorem ok_ascI {f : Addr} {fd : FuncData} (F : Fun K "is_ascending" "is_ascending" sAsc f fd) (T : TxtAsc mg) : FnOk P w K mg base CX0 1 f fd ["rows"] spAscI := by
  refine F.ok scAsc (fun vs H Q E h => ?_) (fun cdv A outer s H vs Q E hr h => ?_)
  · obtain ⟨t, ks, rfl, _⟩ := h
    rfl
  · obtain ⟨t, ks, rfl, ht, few, asc, k⟩ := h
    have nd := scAsc.nd
    refine ⟨_, (pss_one (ps_ret (pe_callB (cr_all rfl) (by rfl) T.all (by decide +kernel) (pa_cons (pe_lc (own := [("low", 1), ("high", 2)]) (by rfl) nd (RZ.pi_zipA (by rfl) T.zip (pa_cons (pv 0) (pa_cons (pe_slice sl_tupA (pv 0) (po_some pe_int) po_none) pa_nil))) (blkOk_by (N := nAsc) (sc := defScope sAsc) (by decide +kernel)) (fun _ _ _ _ _ => (pg_tupK (K := K) (n := 2) rfl rfl (pgs_cons (pg_name (i := 1) nd rfl (Or.inl rfl)) (pgs_cons (pg_name (i := 2) nd rfl (Or.inl rfl)) pgs_nil)))) (fun _ _ _ _ _ => pts_nil) (fun _ _ _ _ _ => (pe_cmpR op_lt (pv 1) (pv 2) (nomark _)))) pa_nil)))), ?_⟩
    refine ⟨_, rfl, _, rfl, _, rfl, t, _, rfl, .inl (.inl ht), fun c => ?_, fun c b nb => ?_⟩
    · have e0 : ks = [] := by
        have z : min 1 (ks.map V.int).length = 0 := c.1
        rw [List.length_map] at z
        exact List.length_eq_zero_iff.mp (by omega)
      subst e0
      refine ⟨t, t, [], [], rfl, .inr ⟨.inl (.inl ht), .inl (.inl ht), ?_⟩⟩
      exact asc_loopI (K := K) (v0 := V.ref t) (R := fun x H1 => rAll K [x] H1 Q) (ks := []) (ys := []) few asc ht ht (Nat.le_refl _) (fun i y h => by cases h) fun H' D bs e hD hb => ⟨D, bs, rfl, SqL.of hD, by rw [hb]; exact k H' e⟩
    · have e1 : Same H (upd H b (.tup (cutV (ks.map V.int) (some 1) none))) := same_new nb
      refine ⟨t, b, _, _, rfl, .inr ⟨.inl (.inl (e1 _ _ ht)), .inl (.inl upd_same), ?_⟩⟩
      refine asc_loopI (K := K) (v0 := V.ref t) (R := fun x H1 => rAll K [x] H1 Q) few asc (e1 _ _ ht) upd_same (by rw [← List.length_map (f := V.int)]; exact cutV_length ..) (fun i y h => ?_) fun H' D bs e hD hb => ⟨D, bs, rfl, SqL.of hD, by rw [hb]; exact k H' (e1.trans e)⟩
      have ec : cutV (ks.map V.int) (some 1) none = ((ks.map V.int).drop (min 1 (ks.map V.int).length)).take ((ks.map V.int).length - min 1 (ks.map V.int).length) := rfl
      rw [ec, List.getElem?_take] at h
      split at h
      · rename_i lt
        rw [List.getElem?_drop, Nat.min_eq_left (by omega), Nat.add_comm, List.getElem?_map] at h
        cases z : ks[i + 1]? with
        | none => rw [z] at h; cases h
        | some q => rw [z] at h; exact ⟨q, (Option.some.inj h).symm, rfl⟩
      · cases h
/-- a row of a machine's states, ascending: it is one -/
def spStates (C : Addr) : Sp := fun vs H Q _ => ∃ (p t : Addr) (many : Int) (sts : List Stp) (ns : List Int), vs = [.ref p, .ref t] ∧ MachAt C H p many sts ∧ Size many ∧ many < 60 ∧ H t = some (.tup (ns.map V.int)) ∧ ns.Pairwise (· < ·) ∧ InR many ns ∧ ∀ H', Same H H' → Q (.bl true) H'
abbrev sSs : Stmt := top 12
abbrev nSs : List Str := ["machine", "states", "state"]
theorem scStates : FnScope nSs ["machine", "states"] (defScope sSs) := ⟨rfl, rfl, rfl, by decide +kernel, rfl, by decide +kernel, by decide +kernel⟩
structure TxtSs (mg : Str → Option Value) : Prop where
  isinstance : mg "isinstance" = none
  tuple : mg "tuple" = none
  all : mg "all" = none
theorem ok_states {f fS fA : Addr} {fd fdS fdA : FuncData} (F : Fun K "are_states" "are_states" sSs f fd) (T : TxtSs mg)
    (A_is_state : At1 K mg "is_state" fS) (G_is_state : FnOk P w K mg base CX0 3 fS fdS ["machine", "state"] (spState K C)) (b_is_state : Binds K fdS ["machine", "state"] [])
    (A_is_ascending : At1 K mg "is_ascending" fA) (G_is_ascending : FnOk P w K mg base CX0 1 fA fdA ["rows"] spAscI) (b_is_ascending : Binds K fdA ["rows"] []) : FnOk P w K mg base CX0 4 f fd ["machine", "states"] (spStates C) := by
  refine F.ok scStates (fun vs H Q E h => ?_) (fun cdv A outer s H vs Q E hr h => ?_)
  · obtain ⟨p, t, many, sts, ns, rfl, _⟩ := h
    rfl
  · obtain ⟨p, t, many, sts, ns, rfl, M, sz, m60, ht, asc, inr, k⟩ := h
    have nd := scStates.nd
    have hr_is_state : Room 3 _ := hr
    have hr_is_ascending : Room 1 _ := hr.mono (by decide)
    refine ⟨_, (pss_cons (ps_if (PW.pt (pw_or (pt_not (pt_val (pe_callB call_isi (by rfl) T.isinstance (by decide +kernel) (pa_cons (pv 1) (pa_cons (pe_bltn (v := .ty "tuple") (by rfl) T.tuple (by decide +kernel) rfl) pa_nil))))) (pw_or1 (pt_not (pt_val (pe_callB (cr_all rfl) (by rfl) T.all (by decide +kernel) (pa_cons (pe_lc (own := [("state", 2)]) (by rfl) nd (pi_tup (pv 1)) (blkOk_by (N := nSs) (sc := defScope sSs) (by decide +kernel)) (fun _ _ _ _ _ => (pg_name (i := 2) nd rfl (Or.inl rfl))) (fun _ _ _ _ _ => pts_nil) (fun _ _ _ _ _ => (pe_call G_is_state hr_is_state (by rfl) A_is_state.g A_is_state.k b_is_state .nil pass0 (pa_cons (pv 0) (pa_cons (pv 2) pa_nil))))) pa_nil)))))))
        (pss_one (ps_ret pe_bl))
        pss_nil)
      (pss_one (ps_ret (pe_call G_is_ascending hr_is_ascending (by rfl) A_is_ascending.g A_is_ascending.k b_is_ascending .nil pass0 (pa_cons (pv 1) pa_nil))))), ?_⟩
    have pl : Pl K H (.ref t) "tuple" := .tup ht
    have few := few_ints (asc_nodup asc) inr
    refine ⟨_, rfl, .ref t, .ty "tuple", _, _, _, rfl, .ty "tuple", pl.tyX, pl.kit "tuple" (.inr (.inl rfl)), _, rfl, ?_⟩
    refine iteF ⟨_, rfl, t, rfl, ⟨_, SqT.of ht⟩, fun D hD => lc_tup (K := K) (a := t) (xs := ns.map V.int) (fun i H' => H' D = some (.lst ((List.replicate i true).map V.bl)) ∧ Same H H') ⟨upd_same, same_new hD⟩ (fun i H' _ ⟨_, e⟩ => SqT.of (e _ _ ht)) ?_ ?_⟩
    · rintro i x H1 hx ⟨h1, e⟩
      obtain ⟨q, hq, rfl⟩ := int_seq hx
      have lt : i < ns.length := (List.getElem?_eq_some_iff.mp hq).1
      have inq := inr q (List.mem_of_getElem? hq)
      refine ⟨rfl, _, rfl, _, rfl, p, many, sts, .int q, "int", rfl, M.same e, sz, .int q, _, h1, by rw [List.length_map, List.length_replicate, sizeLine_eq]; omega, ?_, put_in e hD⟩
      rw [upd_same, show stateB many (.int q) = true by show (decide (0 ≤ q) && decide (q < many)) = true; rw [decide_eq_true inq.1, decide_eq_true inq.2]; rfl, List.replicate_succ', List.map_append]; rfl
    · rintro H1 ⟨h1, e⟩
      refine ⟨D, _, rfl, SqL.of h1, _, rfl, ?_⟩
      rw [show (List.replicate (ns.map V.int).length true).all id = true from List.all_eq_true.mpr fun x hx => by rw [(List.mem_replicate.mp hx).2]; rfl]
      exact iteF ⟨_, rfl, t, ns, rfl, e _ _ ht, by omega, asc, fun H2 e2 => k H2 (e.trans e2)⟩
end
end K1
end
section
/-! Alike.shows. -/
namespace K1
open PySem L2
open MX (Rise Up)
theorem ints_key {H : Hp} : ∀ (xs : List Int) (vs : List V), MX.KeyVs H (xs.map .num) vs → vs = xs.map V.int
  | [], _, h => by cases h; rfl
  | x :: xs, _, h => by
    cases h with
    | cons a b => cases a; rw [ints_key xs _ b]; rfl
theorem pair_key {H : Hp} {t : Addr} {p : Node} (h : MX.KeyV H (keyN p) (.ref t)) : PairOf H t p := by
  unfold keyN at h
  cases h with
  | tup a all =>
    cases all with
    | cons k1 r =>
      cases r with
      | cons k2 r2 =>
        cases r2
        cases k1 with
        | tup b1 c1 =>
          cases k2 with
          | tup b2 c2 =>
            rw [ints_key _ _ c1] at b1
            rw [ints_key _ _ c2] at b2
            exact ⟨_, _, a, b1, b2⟩
/-- what pairs show: the first pair is among them, and all go on among themselves -/
def ShowsA (ts1 ts2 : List Stp) (m1 m2 : Int) (ps : List Node) : Prop := startN ts1 ts2 m1 m2 ∈ ps ∧ ∀ p ∈ ps, Goes ts1 ts2 m1 m2 ps p
def spAShows (C CA : Addr) : Sp := fun vs H Q _ => ∃ (x dx a p1 p2 fr : Addr) (m1 m2 : Int) (st1 st2 : List Stp) (ks : List Str) (ps : List Node), vs = [.ref x, .ref p1, .ref p2, .ref fr] ∧ Two C H p1 p2 fr m1 m2 st1 st2 ks ∧ okW st1 ∧ okW st2 ∧ H x = some (.ins CA dx (aF a)) ∧ PairsAt H a ps ∧ ps.Nodup ∧ (∀ p ∈ ps, Good m1 m2 p) ∧
  ∀ (H' : Hp) (r : Bool), Same H H' → (r = true ↔ ShowsA (st1.filter (isOpen ks)) (st2.filter (isOpen ks)) m1 m2 ps) → Q (.bl r) H'
section
variable {P : Program} {w : World} {K : PySem.W.Frag} {mg : Str → Option Value} {base : Heap} {C CO CA CU : Addr}
abbrev sAS : Stmt := inClass (top 16) 3
abbrev nAS : List Str := ["self", "one", "other", "free", "low", "high", "first", "second", "known", "pair"]
theorem scAS : FnScope nAS ["self", "one", "other", "free"] (defScope sAS) := ⟨rfl, rfl, rfl, by decide +kernel, rfl, by decide +kernel, by decide +kernel⟩
set_option maxHeartbeats 1000000 in
theorem ok_as {f fF fSs fO fS fG : Addr} {fd fdF fdSs fdO fdS fdG : FuncData} (F : Fun K "shows" "Alike.shows" sAS f fd) (T : TxtJ K mg CO CA CU) (TU : TxtAU K mg CA CU)
    (A_check_free : At1 K mg "check_free" fF) (G_check_free : FnOk P w K mg base (L2.CX P w) 2 fF fdF ["kinds"] spFree) (b_check_free : Binds K fdF ["kinds"] [])
    (A_are_states : At1 K mg "are_states" fSs) (G_are_states : FnOk P w K mg base CX0 4 fSs fdSs ["machine", "states"] (spStates C)) (b_are_states : Binds K fdSs ["machine", "states"] [])
    (A_outlook_of : At1 K mg "outlook_of" fO) (G_outlook_of : FnOk P w K mg base CX0 3 fO fdO ["machine", "free"] (spOut C CO)) (b_outlook_of : Binds K fdO ["machine", "free"] [])
    (M_spread : Meth K CO "spread" fS) (G_spread : FnOk P w K mg base CX0 2 fS fdS ["self", "states"] (spSpread CO)) (b_spread : Binds K fdS ["self", "states"] [])
    (A_goes_on_alike : At1 K mg "goes_on_alike" fG) (G_goes_on_alike : FnOk P w K mg base CX0 4 fG fdG ["first", "second", "pair", "known"] (spGoes P w CO)) (b_goes_on_alike : Binds K fdG ["first", "second", "pair", "known"] []) :
    FnOk P w K mg base (L2.CX P w) 5 f fd ["self", "one", "other", "free"] (spAShows C CA) := by
  refine F.okX scAS (fun vs H Q E h => ?_) (fun cdv A outer s H vs Q E hr h => ?_)
  · obtain ⟨x, dx, a, p1, p2, fr, m1, m2, st1, st2, ks, ps, rfl, _⟩ := h
    rfl
  · obtain ⟨x, dx, a, p1, p2, fr, m1, m2, st1, st2, ks, ps, rfl, TW, w1, w2, hx, pa, nod, good, k⟩ := h
    have nd := scAS.nd
    have hu := hr.units
    have hr_check_free : Room 2 _ := hr.mono (by decide)
    have hr_are_states : Room 4 _ := hr
    have hr_outlook_of : Room 3 _ := hr.mono (by decide)
    have hr_spread : Room 2 _ := hr.mono (by decide)
    have hr_goes_on_alike : Room 4 _ := hr
    refine ⟨_, (pss_cons (ps_expr (pe_callS G_check_free hr_check_free (by rfl) A_check_free.g A_check_free.k b_check_free (E := fun _ => E) (fun σ => passAt (takes_of rfl rfl rfl rfl) σ) (pa_cons (pv 3) pa_nil)))
      (PSs.nox (pss_cons (ps_for PassesOwn.never rfl (pi_list (pe_fld (pv 0) rfl)) (pg_tup rfl (pgs_cons (pg_name (i := 4) nd rfl (Or.inl rfl)) (pgs_cons (pg_name (i := 5) nd rfl (Or.inl rfl)) pgs_nil)))
        (pss_one (ps_if (PW.pt (pw_or (pt_not (pt_val (pe_call G_are_states hr_are_states (by rfl) A_are_states.g A_are_states.k b_are_states .nil pass0 (pa_cons (pv 1) (pa_cons (pv 4) pa_nil))))) (pw_or1 (pt_not (pt_val (pe_call G_are_states hr_are_states (by rfl) A_are_states.g A_are_states.k b_are_states .nil pass0 (pa_cons (pv 2) (pa_cons (pv 5) pa_nil))))))))
          (pss_one (ps_ret pe_bl))
          pss_nil)))
      (pss_cons (ps_asg (pe_tup (pa_cons (pe_call G_outlook_of hr_outlook_of (by rfl) A_outlook_of.g A_outlook_of.k b_outlook_of .nil pass0 (pa_cons (pv 1) (pa_cons (pv 3) pa_nil))) (pa_cons (pe_call G_outlook_of hr_outlook_of (by rfl) A_outlook_of.g A_outlook_of.k b_outlook_of .nil pass0 (pa_cons (pv 2) (pa_cons (pv 3) pa_nil))) pa_nil))) (pg_tup rfl (pgs_cons (pg_name (i := 6) nd rfl (Or.inr rfl)) (pgs_cons (pg_name (i := 7) nd rfl (Or.inr rfl)) pgs_nil))))
      (pss_cons (ps_set (i := 8) nd rfl (Or.inr rfl) (MX.pe_dcX (own := [("pair", 9)]) hu (by rfl) nd (pi_list (pe_fld (pv 0) rfl)) (blkOk_by (N := nAS) (sc := defScope sAS) (by decide +kernel)) (fun _ _ _ _ _ => (pg_name (i := 9) nd rfl (Or.inl rfl))) (fun _ _ _ _ _ => pts_nil) (fun _ _ _ _ _ => (pv 9)) (fun _ _ _ _ _ => pe_bl)))
      (pss_cons (ps_if (pt_cmpR (MX.op_notInX hu) (pe_tup (pa_cons (pe_meth (pv 6) T.Outlook.cl M_spread G_spread hr_spread b_spread .nil pass0 (pa_cons (pe_lst (pa_cons pe_int pa_nil)) pa_nil)) (pa_cons (pe_meth (pv 7) T.Outlook.cl M_spread G_spread hr_spread b_spread .nil pass0 (pa_cons (pe_lst (pa_cons pe_int pa_nil)) pa_nil)) pa_nil))) (pv 8) rfl)
        (pss_one (ps_ret pe_bl))
        pss_nil)
      (pss_one (ps_ret (pe_callB (cr_all rfl) (by rfl) T.all (by decide +kernel) (pa_cons (pe_lock (pe_lc (own := [("pair", 9)]) (by rfl) nd (MX.pi_keysX (pv 8)) (blkOk_by (N := nAS) (sc := defScope sAS) (by decide +kernel)) (fun _ _ _ _ _ => (pg_name (i := 9) nd rfl (Or.inl rfl))) (fun _ _ _ _ _ => pts_nil) (fun _ _ _ _ _ => (pe_call G_goes_on_alike hr_goes_on_alike (by rfl) A_goes_on_alike.g A_goes_on_alike.k b_goes_on_alike .nil pass0 (pa_cons (pv 6) (pa_cons (pv 7) (pa_cons (pv 9) (pa_cons (pv 8) pa_nil)))))))) pa_nil)))))))))), ?_⟩
    have hi1 := TW.high1
    have hi2 := TW.high2
    have lo1 := TW.low1
    have lo2 := TW.low2
    have sub1 : ∀ s ∈ st1.filter (isOpen ks), OkS m1 s := fun s hs => TW.ok1 s (List.mem_filter.mp hs).1
    have sub2 : ∀ s ∈ st2.filter (isOpen ks), OkS m2 s := fun s hs => TW.ok2 s (List.mem_filter.mp hs).1
    have len1 : (st1.filter (isOpen ks)).length < 64 := Nat.lt_of_le_of_lt (List.length_filter_le _ _) TW.few1
    have len2 : (st2.filter (isOpen ks)).length < 64 := Nat.lt_of_le_of_lt (List.length_filter_le _ _) TW.few2
    have wf1 : okW (st1.filter (isOpen ks)) := fun t ht => w1 t (List.mem_filter.mp ht).1
    have wf2 : okW (st2.filter (isOpen ks)) := fun t ht => w2 t (List.mem_filter.mp ht).1
    obtain ⟨as, a1, a2, a3⟩ := id pa
    have few := nodes_few hi1 hi2 nod good
    have pairAt : ∀ {i : Nat} {v : V}, (as.map V.ref)[i]? = some v → ∃ t p, as[i]? = some t ∧ v = .ref t ∧ ps[i]? = some p ∧ PairOf H t p := fun {i v} hv => by
      rw [List.getElem?_map] at hv
      cases e : as[i]? with
      | none => rw [e] at hv; cases hv
      | some t =>
        rw [e] at hv
        have lt : i < ps.length := by rw [← a2]; exact (List.getElem?_eq_some_iff.mp e).1
        exact ⟨t, ps[i], rfl, (Option.some.inj hv).symm, List.getElem?_eq_getElem lt, a3 i t _ e (List.getElem?_eq_getElem lt)⟩
    refine into ⟨_, rfl, fr, ks, rfl, TW.free, TW.fewk, TW.asc, TW.wk, fun H1 e1 => ?_⟩
    refine into ⟨_, rfl, x, _, dx, _, _, rfl, e1 _ _ hx, TU.clA, TU.n_pairs, aF_pairs, a, rfl, ⟨_, SqL.of (e1 _ _ a1)⟩, ?_⟩
    refine for_list (xs := as.map V.ref) (fun i σ H' => Same H H' ∧ ∃ v4 v5, σ = [some (.ref x), some (.ref p1), some (.ref p2), some (.ref fr), v4, v5, none, none, none, none]) ⟨e1, _, _, rfl⟩ (fun i σ H' _ z => SqL.of (z.1 _ _ a1)) ?_ ?_
    · rintro i v σ H2 hv ⟨e2, v4, v5, rfl⟩
      obtain ⟨t, p, ht, rfl, hp, l, h, q1, q2, q3⟩ := pairAt hv
      have gp := good p (List.mem_of_getElem? hp)
      have T2 := TW.same e2
      refine ⟨t, _, rfl, SqT.of (e2 _ _ q1), rfl, _, _, rfl, _, _, rfl, rfl, ?_⟩
      refine ⟨_, rfl, _, rfl, p1, l, m1, st1, p.1, rfl, T2.one, ⟨by omega, by omega⟩, by omega, e2 _ _ q2, gp.a1, gp.r1, fun H3 e3 => ⟨_, rfl, iteF ?_⟩⟩
      have e23 := e2.trans e3
      refine ⟨_, rfl, _, rfl, p2, h, m2, st2, p.2, rfl, (TW.same e23).other, ⟨by omega, by omega⟩, by omega, e23 _ _ q3, gp.a2, gp.r2, fun H4 e4 => ⟨_, rfl, iteF ⟨e23.trans e4, _, _, rfl⟩⟩⟩
    · rintro σ H2 ⟨e2, v4, v5, rfl⟩
      have T2 := TW.same e2
      refine into ⟨_, rfl, _, rfl, p1, fr, m1, st1, ks, rfl, T2.one, T2.ok1, T2.low1, by omega, T2.few1, T2.free, fun H3 f1 e3 O1 => ?_⟩
      have T3 := T2.same e3
      refine ⟨_, rfl, _, rfl, p2, fr, m2, st2, ks, rfl, T3.other, T3.ok2, T3.low2, by omega, T3.few2, T3.free, fun H4 f2 e4 O2 => ⟨by show 2 ≤ sizeLine; decide, fun TP nTP => ?_⟩⟩
      have e5 : Same H4 (upd H4 TP (.tup [.ref f1, .ref f2])) := same_new nTP
      have hTP : (upd H4 TP (.tup [.ref f1, .ref f2])) TP = some (.tup [.ref f1, .ref f2]) := upd_same
      have e05 : Same H (upd H4 TP (.tup [.ref f1, .ref f2])) := ((e2.trans e3).trans e4).trans e5
      have O1' := (O1.same e4).same e5
      have O2' := O2.same e5
      generalize upd H4 TP (.tup [.ref f1, .ref f2]) = H5 at e5 hTP e05 O1' O2' ⊢
      generalize hts1 : st1.filter (isOpen ks) = ts1 at *
      generalize hts2 : st2.filter (isOpen ks) = ts2 at *
      refine ⟨TP, _, rfl, SqT.of hTP, rfl, _, _, rfl, _, _, rfl, rfl, ?_⟩
      refine into ⟨_, rfl, x, _, dx, _, _, rfl, e05 _ _ hx, TU.clA, TU.n_pairs, aF_pairs, a, rfl, ⟨_, SqL.of (e05 _ _ a1)⟩, fun KN nKN => ?_⟩
      refine walk_list (K := K) (a := a) (xs := as.map V.ref) (fun i H' => Same H5 H' ∧ ∃ kvs : List MX.EntX, H' KN = some (MX.DictXO P w KN kvs) ∧ MX.KeysX H' kvs ∧ kvs.map (·.1) = (ps.take i).map keyN) ⟨same_new nKN, [], upd_same, fun x hx => (nomatch hx), by rw [List.take_zero]; rfl⟩ (fun i H' _ z => SqL.of (z.1 _ _ (e05 _ _ a1))) ?_ ?_
      · rintro i v H6 hv ⟨e6, kvs, hK, keys, ek⟩
        obtain ⟨t, p, ht, rfl, hp, po⟩ := pairAt hv
        have po6 := po.same (e05.trans e6)
        have new : ¬ (MX.atX kvs (keyN p)).isSome = true := fun z => by
          have m := at_mem.mp z
          rw [ek] at m
          obtain ⟨q, hq, e⟩ := List.mem_map.mp m
          rw [keyN_inj e] at hq
          obtain ⟨j, lj, ej⟩ := List.mem_iff_getElem.mp hq
          rw [List.getElem_take] at ej
          obtain ⟨li, ei⟩ := List.getElem?_eq_some_iff.mp hp
          rw [List.length_take] at lj
          exact absurd (ej.trans ei.symm) (List.pairwise_iff_getElem.mp nod j i (by omega) li (by omega))
        have ep : MX.putX kvs (keyN p) t (.bl true) = kvs ++ [(keyN p, t, .bl true)] := by unfold MX.putX; rw [if_neg new]
        have kl : kvs.length ≤ 65536 := by
          have := congrArg List.length ek
          rw [List.length_map, List.length_map, List.length_take] at this; omega
        have ts6 : TupSame H6 (upd H6 KN (MX.DictXO P w KN (MX.putX kvs (keyN p) t (.bl true)))) := .upd hK fun xs z => by cases z
        refine ⟨rfl, _, rfl, t, kvs, keyN p, rfl, po6.key, keyN_deep p, hK, keys, by rw [sizeLine_eq]; omega, put_in e6 nKN, MX.putX kvs (keyN p) t (.bl true), upd_same, fun x hx => ?_, ?_⟩
        · rw [ep] at hx
          rcases List.mem_append.mp hx with h | h
          · exact ⟨keyV_tup ts6 _ _ (keys x h).1, (keys x h).2⟩
          · rw [List.mem_singleton.mp h]
            exact ⟨keyV_tup ts6 _ _ po6.key, keyN_deep p⟩
        · rw [ep, List.map_append, ek, List.take_add_one, hp, List.map_append]; rfl
      · rintro H6 ⟨e6, kvs, hK, keys, ek⟩
        rw [List.length_map, a2, List.take_length] at ek
        have e06 := e05.trans e6
        have look : ∀ {H' : Hp} {r : Addr} {m : Int} {ts : List Stp}, OutAt CO H' r m ts → ∃ dx uA wA, H' r = some (.ins CO dx (oFlds uA wA)) := fun ⟨dx, uA, wA, _, _, h, _⟩ => ⟨dx, uA, wA, h⟩
        have zero1 : InR m1 [0] := fun x hx => by rw [List.mem_singleton.mp hx]; omega
        have zero2 : InR m2 [0] := fun x hx => by rw [List.mem_singleton.mp hx]; omega
        have O16 := O1'.same e6
        have O26 := O2'.same e6
        obtain ⟨dx1, uA1, wA1, hf1⟩ := look O16
        refine into ⟨_, rfl, f1, dx1, _, rfl, hf1, oFlds_no (by decide +kernel), by show 1 ≤ sizeLine; decide, fun l1 nl1 => ?_⟩
        refine ⟨f1, l1, m1, ts1, [0], rfl, O16.same (same_new nl1), sub1, by omega, .inl upd_same, by show 1 ≤ 3900; decide, zero1, fun H7 t1 e7 ht1 => ?_⟩
        have e67 : Same H6 H7 := (same_new nl1).trans e7
        have O27 := O26.same e67
        obtain ⟨dx2, uA2, wA2, hf2⟩ := look O27
        refine ⟨_, rfl, f2, dx2, _, rfl, hf2, oFlds_no (by decide +kernel), by show 1 ≤ sizeLine; decide, fun l2 nl2 => ?_⟩
        refine ⟨f2, l2, m2, ts2, [0], rfl, O27.same (same_new nl2), sub2, by omega, .inl upd_same, by show 1 ≤ 3900; decide, zero2, fun H8 t2 e8 ht2 => ⟨by show 2 ≤ sizeLine; decide, fun B nB => ?_⟩⟩
        have e78 : Same H7 H8 := (same_new nl2).trans e8
        have e9 : Same H8 (upd H8 B (.tup [.ref t1, .ref t2])) := same_new nB
        have po : PairOf (upd H8 B (.tup [.ref t1, .ref t2])) B (startN ts1 ts2 m1 m2) := ⟨t1, t2, upd_same, e9 _ _ (e78 _ _ ht1), e9 _ _ ht2⟩
        have e69 : Same H6 (upd H8 B (.tup [.ref t1, .ref t2])) := (e67.trans e78).trans e9
        generalize upd H8 B (.tup [.ref t1, .ref t2]) = H9 at e9 po e69 ⊢
        have e09 := e06.trans e69
        have keys9 : MX.KeysX H9 kvs := keys.same fun b o z => e69 _ _ z
        have hK9 := e69 _ _ hK
        refine ⟨_, rfl, B, KN, keyN (startN ts1 ts2 m1 m2), kvs, rfl, rfl, po.key, keyN_deep _, .inl hK9, keys9, _, rfl, ?_⟩
        have memk : ∀ q : Node, (MX.atX kvs (keyN q)).isSome = true ↔ q ∈ ps := fun q => by
          rw [at_mem, ek]
          exact ⟨fun z => let ⟨q', hq, e⟩ := List.mem_map.mp z; keyN_inj e ▸ hq, fun z => List.mem_map.mpr ⟨_, z, rfl⟩⟩
        by_cases c1 : (MX.atX kvs (keyN (startN ts1 ts2 m1 m2))).isSome = true
        · refine iteF' (by simp [c1]) ?_
          try unfold tNext
          dsimp only
          have nK0 : H KN = none := by
            cases q : H KN with
            | none => rfl
            | some o => rw [e05 _ _ q] at nKN; cases nKN
          refine ⟨KN, _, hK9, True.intro, fun od => ?_⟩
          refine ⟨_, rfl, KN, od, kvs, rfl, upd_same, fun D nD => ?_⟩
          have nDK : D ≠ KN := fun z => by rw [z, upd_same] at nD; cases nD
          have nD9 : H9 D = none := by rw [upd_ne nDK] at nD; exact nD
          refine lc_it (MX.walk_keysX (P := P) (w := w) (d := KN) (o := od) (kvs := kvs)) (fun j H' => H' KN = some (.frz od (MX.DictXO P w KN kvs)) ∧ (∀ b o, H9 b = some o → b ≠ KN → H' b = some o) ∧ ∃ bs : List Bool, H' D = some (.lst (bs.map V.bl)) ∧ bs.length = j ∧ (bs.all id = true ↔ ∀ q ∈ ps.take j, Goes ts1 ts2 m1 m2 ps q))
            ⟨by rw [upd_ne nDK.symm, upd_same], fun b o z n => by rw [upd_ne (ne_of_none z nD9), upd_ne n]; exact z, [], upd_same, rfl, ⟨(fun _ q hq => by rw [List.take_zero] at hq; cases hq), fun _ => rfl⟩⟩ (fun j H' _ z => z.1) ?_ ?_
          · rintro j y H10 H11 lt ⟨z1, z2, bs, hb, lb, all⟩ ⟨rfl, y, hy, rfl⟩
            obtain ⟨p, hp, ekp⟩ : ∃ p, ps[j]? = some p ∧ y.1 = keyN p := by
              have z : (kvs.map (·.1))[j]? = some y.1 := by rw [List.getElem?_map, hy]; rfl
              rw [ek, List.getElem?_map] at z
              cases e : ps[j]? with
              | none => rw [e] at z; cases z
              | some p => rw [e] at z; exact ⟨p, rfl, (Option.some.inj z).symm⟩
            have ky := (keys9 y (List.mem_of_getElem? hy)).1
            rw [ekp] at ky
            have tu : TupSame H9 H11 := fun b xs z => z2 b _ z fun q => by rw [q, hK9] at z; cases z
            have py := (pair_key ky).tup tu
            have e5h : Same H5 H11 := fun b o z => z2 b o (e69 _ _ (e6 _ _ z)) (ne_of_none z nKN)
            refine ⟨rfl, _, rfl, _, rfl, _, rfl, _, rfl, f1, f2, y.2.1, KN, m1, m2, ts1, ts2, p, ps, kvs, rfl, O1'.same e5h, O2'.same e5h, sub1, sub2, len1, len2, by omega, by omega, wf1, wf2, py, good p (List.mem_of_getElem? hp), .inr ⟨od, z1⟩, fun x hx => ⟨keyV_tup tu _ _ (keys9 x hx).1, (keys9 x hx).2⟩, ek, fun H12 b e12 hbb => ⟨_, e12 _ _ hb, by rw [List.length_map, lb, sizeLine_eq]; have := (List.getElem?_eq_some_iff.mp hp).1; omega, by rw [upd_ne nDK.symm]; exact e12 _ _ z1, fun b' o z n => by rw [upd_ne (ne_of_none z nD9)]; exact e12 _ _ (z2 b' o z n), bs ++ [b], by rw [upd_same, List.map_append]; rfl, by rw [List.length_append, lb]; rfl, ?_⟩⟩
            rw [List.all_append, Bool.and_eq_true, all, List.take_add_one, hp]
            constructor
            · rintro ⟨u, v⟩ q hq
              rcases List.mem_append.mp hq with hq | hq
              · exact u q hq
              · rw [List.mem_singleton.mp hq]
                exact hbb.mp (by simpa using v)
            · intro z
              refine ⟨fun q hq => z q (List.mem_append_left _ hq), ?_⟩
              have := hbb.mpr (z p (List.mem_append_right _ (List.mem_singleton.mpr rfl)))
              simpa using this
          · rintro H10 ⟨z1, z2, bs, hb, lb, all⟩
            have kl : kvs.length = ps.length := by have := congrArg List.length ek; rw [List.length_map, List.length_map] at this; exact this
            rw [kl, List.take_length] at all
            refine ⟨z1, D, bs, rfl, SqL.of (by rw [upd_ne nDK]; exact hb), k _ _ (fun b o z => ?_) ?_⟩
            · have n := ne_of_none z nK0
              rw [upd_ne n]
              exact z2 b o (e09 _ _ z) n
            · rw [all]
              exact ⟨fun z => ⟨(memk _).mp c1, z⟩, fun g => g.2⟩
        · exact iteT' (by simpa using c1) (k H9 false e09 ⟨fun z => (by cases z), fun g => absurd ((memk _).mpr g.1) c1⟩)
end
end K1
end
section
/-! Own instances' truth and +, math.lcm, xs[i] op= e. -/
namespace L2
open PySem PySem.Spec PyProof.Rows PySem.W
/-- a __bool__ that always says the same -/
def spSays (b : Bool) : Sp := fun vs H Q _ => (∃ p : Addr, vs = [V.ref p]) ∧ Q (.bl b) H
def SaysB (P : Program) (w : World) (K : PySem.W.Frag) (mg : PySem.Str → Option Value) (base : Heap) (C : Addr) (b : Bool) : Prop :=
  ∃ (f : Addr) (fd : FuncData), findIn K (.ref C) "__bool__" = some (some (.ref f)) ∧ isFn K (.ref f) = true ∧ FnOk P w K mg base CX0 1 f fd ["self"] (spSays b) ∧ Binds K fd ["self"] []
section
variable {X : Cx} {pins : List (Addr × Obj)} {σ : L2.St} {H : Hp} {s : Shared} {A : Around}
/-- instances of classes of which B tells what they are as truth -/
def rSays (B : Addr → Bool → Prop) : V → Hp → (Bool → Hp → Prop) → Prop := fun x H Q => ∃ (p C dx : Addr) (fs : List (PySem.Str × V)) (b : Bool), x = .ref p ∧ H p = some (.ins C dx fs) ∧ B C b ∧ Q b H
theorem truth_in {B : Addr → Bool → Prop} {x : V} {v : Value} {Q : Bool → Hp → Prop} (hB : ∀ C b, B C b → SaysB X.prog X.w X.K X.mg X.base C b) (sb : Sub X 1 A) (hx : Passes CX0 X E0) (I : Inv X pins σ H s) (rx : RelV x v) (h : rSays B x H Q) :
    wpAny (model X.prog X.w) A (truthy v) (TP X pins σ Q) X.xe s := by
  obtain ⟨p, C, dx, fs, b, rfl, hp, says, q⟩ := h
  obtain rfl : v = Value.ref p := rx
  obtain ⟨f, fd, find, isf, F, hb⟩ := hB C b says
  obtain ⟨o, od, at_⟩ := inst_at I hp
  obtain ⟨m, fr⟩ := I.fr
  refine truthy_K fr I.ok.mod.kin at_ find isf ?_
  refine wpAny_mono (run_sub (Q := fun v H' => v = .bl b ∧ Q b H') sb F hb (fun pins H s e s' => hx pins σ H s e s') I (.cons (show L2.RelV (V.ref p) (Value.ref p) from rfl) .nil) ⟨⟨p, rfl⟩, rfl, q⟩) (fun v s1 ⟨y, H1, I1, rel, ey, z⟩ => ?_) fun _ _ z => z
  subst ey
  obtain rfl : v = Value.bool b := rel
  exact ⟨H1, I1, z⟩
theorem tru_says {B : Addr → Bool → Prop} (hB : ∀ C b, B C b → SaysB X.prog X.w X.K X.mg X.base C b) (hr : Room 1 X.A) (hx : Passes CX0 X E0) : TruR X (rSays B) :=
  fun pins s σ H x v Q I rx h => truth_in hB ⟨hr, rfl⟩ hx I rx h
def tSays (B : Addr → Bool → Prop) (ta : TE) : TT := fun σ H Q => ta σ H fun x H' => rSays B x H' Q
theorem pt_says {a : Expr} {ta : TE} {B : Addr → Bool → Prop} (hB : ∀ C b, B C b → SaysB X.prog X.w X.K X.mg X.base C b) (hr : Room 1 X.A) (hx : Passes CX0 X E0) (ha : PE X a ta) (he : ∀ whole, isTrue a X.env whole = (do let v ← whole; standAt a.pos; holding [v] (truthy v)) := by intro _; rfl) :
    PT X a (tSays B ta) := by
  refine ⟨fun pins s σ H Q I h => isTrue_plain (thn (ha.run pins s σ H _ I h) fun v s1 z => ?_) (he _)⟩
  obtain ⟨x, H1, I1, r1, q1⟩ := z
  exact tru_says hB hr hx pins s1 σ H1 x v Q I1 r1 q1
/-- bool(o) -/
def rBoolOf (B : Addr → Bool → Prop) : List V → Hp → VK → Prop := fun xs H Q => ∃ x : V, xs = [x] ∧ rSays B x H fun b H' => Q (.bl b) H'
theorem new_bool {prog : Program} {w : World} {x : Value} : MeetsIn prog w (Builtin.«bool.__new__» ⟨[.type "bool", x], []⟩) (fun A R s => wpAny (model prog w) A.in1 (truthy x) (fun b s' => R (.ok (.ret (.bool b))) s') (fun e s' => R (.error e) s') s) := by
  intro A R s h
  unfold Builtin.«bool.__new__»
  refine wpAny_bind (m := isType (.type "bool")) (wpAny_of_eq (a := true) rfl ?_)
  rw [if_neg (show ¬ (!true) = true by decide)]
  refine wpAny_bind (wpAny_of_eq F.conv_sub_bool ?_)
  rw [if_neg (show ¬ (!true) = true by decide)]
  refine wpAny_bind (m := someArgs "bool" 0 1 _) (wpAny_of_eq (a := [x]) rfl ?_)
  dsimp only
  exact wpAny_bind (wpAny_mono h (fun b s' z => wpAny_pure z) fun _ _ z => z)
theorem call_boolOwn {B : Addr → Bool → Prop} (hB : ∀ C b, B C b → SaysB X.prog X.w X.K X.mg X.base C b) (hr : Room 3 X.A) (hx : Passes CX0 X E0) : CallR X (.type "bool") (rBoolOf B) := by
  intro pins s σ H xs us Q I r h
  obtain ⟨x, rfl, h⟩ := h
  match us, r with
  | [v], .cons rx .nil =>
    refine callType_newIn F.called_bool F.newNe_bool (F.typeCall_bool_1 v) (F.newCall_bool_1 v) (fun obj => F.args_object_init_2 obj v) F.entry_bool_new new_bool ?_
    refine wpAny_mono (truth_in hB ⟨hr.in1.in1, rfl⟩ hx I rx h) (fun b s' ⟨H', I', q⟩ => ?_) fun _ _ z => z
    exact ⟨PySem.typeIs_bool _ _, .bl b, H', I', rfl, q⟩
/-- lcm(a, b) -/
def rLcm : List V → Hp → VK → Prop := fun vs H Q => ∃ a b : Int, vs = [.int a, .int b] ∧ a.natAbs < 2 ^ 64 ∧ b.natAbs < 2 ^ 64 ∧ Q (.int ((Nat.lcm a.natAbs b.natAbs : Nat) : Int)) H
theorem cr_lcm : CallR X (.builtin "math.lcm") rLcm := by
  intro pins s σ H vs us Q I r h
  obtain ⟨a, b, rfl, ha, hb, q⟩ := h
  obtain ⟨t, u, rfl⟩ := Vals.int2 r
  exact PySem.W.mc_lcm ha hb fun _ => ⟨.int _, H, I.tok _, ⟨_, rfl⟩, q⟩
/-- xs[i] read for xs[i] op= e -/
def rAt0 (K : PySem.W.Frag) : V → V → Hp → VK → Prop := fun x y H Q => ∃ (p : Addr) (xs : List V) (i : Nat) (v : V), x = .ref p ∧ y = .int i ∧ SqL K H p xs ∧ xs[i]? = some v ∧ Q v H
theorem pget_list : PGet X (rAt0 X.K) := by
  intro pins s σ H o i ov iv Q I ro ri h
  obtain ⟨p, xs, k, v, rfl, rfl, hs, hv, q⟩ := h
  obtain rfl : ov = Value.ref p := ro
  obtain ⟨t, rfl⟩ := ri
  obtain ⟨its, r, pl, hz⟩ := I.list hs
  obtain ⟨u, hu, ru⟩ := r.get hv
  have lt : k < its.length := (List.getElem?_eq_some_iff.mp hu).1
  have l := r.length
  have l63 := line63
  exact getItem_listL pl.isList (Int.natCast_nonneg k) (by omega) (by rw [Int.toNat_natCast]; exact hu) ⟨v, H, I, ru, q⟩
/-- o + p of instances of one class with its own + -/
def rAddOwn (C : Addr) (sp : Sp) (E : XK) : R2 := fun x y H Q => ∃ (p dp : Addr) (fp : List (PySem.Str × V)) (q dq : Addr) (fq : List (PySem.Str × V)), x = .ref p ∧ y = .ref q ∧ H p = some (.ins C dp fp) ∧ H q = some (.ins C dq fq) ∧
  sp [.ref p, .ref q] H (fun v H' => ∃ r : Addr, v = .ref r ∧ Q v H') E
structure AddTxt (K : PySem.W.Frag) (C f : Addr) : Prop where
  self : selfFirst K C = true
  find : findIn K (.ref C) "__add__" = some (some (.ref f))
  fn : isFn K (.ref f) = true
theorem op_addOwn {CX : CXT} {k : Nat} {f C : Addr} {fd : FuncData} {ps : List PySem.Str} {sp : Sp} {E : XK} (T : AddTxt X.K C f) (F : FnOk X.prog X.w X.K X.mg X.base CX k f fd ps sp) (hb : Binds X.K fd ps []) (hr : Room k X.A) (hx : Passes CX X E) : OpR X (binaryOp .Add) (rAddOwn C sp E) := by
  intro pins s σ H x y v u Q I rx ry h
  obtain ⟨p, dp, fp, q, dq, fq, rfl, rfl, hp, hq, run⟩ := h
  obtain rfl : v = Value.ref p := rx
  obtain rfl : u = Value.ref q := ry
  obtain ⟨o, od, at_⟩ := inst_at I hp
  obtain ⟨o2, od2, at2⟩ := inst_at I hq
  obtain ⟨m, fr⟩ := I.fr
  refine binop_K (op := .Add) fr I.ok.mod.kin at_ at2.type T.self T.find T.fn ?_
  refine wpAny_mono (run_sub ⟨hr, rfl⟩ F hb (fun pins H s e s' => hx pins σ H s e s') I (.cons (show L2.RelV (V.ref p) (Value.ref p) from rfl) (.cons (show L2.RelV (V.ref q) (Value.ref q) from rfl) .nil)) run) (fun v s1 ⟨y, H1, I1, rel, r, ey, z⟩ => ?_) fun _ _ z => z
  subst ey
  obtain rfl : v = Value.ref r := rel
  exact ⟨.ref r, H1, I1, rfl, z⟩
end
end L2
end
section
/-! What Alike and Unlike are as truth. -/
namespace K1
open PySem L2
section
variable {P : Program} {w : World} {K : PySem.W.Frag} {mg : Str → Option Value} {base : Heap}
abbrev sAB : Stmt := inClass (top 16) 2
theorem scAB : FnScope ["self"] ["self"] (defScope sAB) := ⟨rfl, rfl, rfl, by decide +kernel, rfl, by decide +kernel, by decide +kernel⟩
theorem ok_aB {f : Addr} {fd : FuncData} (F : Fun K "__bool__" "Alike.__bool__" sAB f fd) : FnOk P w K mg base CX0 1 f fd ["self"] (spSays true) := by
  refine F.ok scAB (fun vs H Q E h => ?_) (fun cdv A outer s H vs Q E hr h => ?_)
  · obtain ⟨⟨p, rfl⟩, _⟩ := h
    rfl
  · obtain ⟨⟨p, rfl⟩, k⟩ := h
    exact ⟨_, (pss_one (ps_ret pe_bl)), k⟩
abbrev sUB : Stmt := inClass (top 17) 2
theorem scUB : FnScope ["self"] ["self"] (defScope sUB) := ⟨rfl, rfl, rfl, by decide +kernel, rfl, by decide +kernel, by decide +kernel⟩
theorem ok_uB {f : Addr} {fd : FuncData} (F : Fun K "__bool__" "Unlike.__bool__" sUB f fd) : FnOk P w K mg base CX0 1 f fd ["self"] (spSays false) := by
  refine F.ok scUB (fun vs H Q E h => ?_) (fun cdv A outer s H vs Q E hr h => ?_)
  · obtain ⟨⟨p, rfl⟩, _⟩ := h
    rfl
  · obtain ⟨⟨p, rfl⟩, k⟩ := h
    exact ⟨_, (pss_one (ps_ret pe_bl)), k⟩
end
end K1
end
section
/-! Free kinds that are none are refused. -/
namespace K1
open PySem L2
open MX (Rise Up)
theorem FnOk.or {P : Program} {w : World} {K : PySem.W.Frag} {mg : Str → Option Value} {base : Heap} {CX : CXT} {k : Nat} {f : Addr} {fd : FuncData} {ps : List Str} {a b : Sp} (x : FnOk P w K mg base CX k f fd ps a) (y : FnOk P w K mg base CX k f fd ps b) :
    FnOk P w K mg base CX k f fd ps (fun vs H Q E => a vs H Q E ∨ b vs H Q E) :=
  ⟨fun vs H Q E h => h.elim (x.len vs H Q E) (y.len vs H Q E), fun A outer s H args us vs Q E hr e0 hb r h => h.elim (fun h => x.run A outer s H args us vs Q E hr e0 hb r h) fun h => y.run A outer s H args us vs Q E hr e0 hb r h⟩
inductive BadF (H : Hp) : V → Prop where
  | non : BadF H .non
  | lst {a : Addr} {xs : List V} (h : H a = some (.lst xs)) : BadF H (.ref a)
  | word {a : Addr} {x : Str} (h : H a = some (.tup [.str x])) (n : wordS x = false) (l : x.length ≤ sizeLine) : BadF H (.ref a)
  | desc {a : Addr} {x y : Str} (h : H a = some (.tup [.str x, .str y])) (w1 : wordS x = true) (w2 : wordS y = true) (n : decide (x.cps.toList < y.cps.toList) = false) : BadF H (.ref a)
theorem BadF.same {H H' : Hp} {v : V} (h : BadF H v) (e : Same H H') : BadF H' v := by
  cases h with
  | non => exact .non
  | lst h => exact .lst (e _ _ h)
  | word h n l => exact .word (e _ _ h) n l
  | desc h w1 w2 n => exact .desc (e _ _ h) w1 w2 n
def spAsc2 : Sp := fun vs H Q _ => ∃ (t : Addr) (x y : Str), vs = [.ref t] ∧ H t = some (.tup [.str x, .str y]) ∧ ∀ H', Same H H' → Q (.bl (decide (x.cps.toList < y.cps.toList))) H'
def spFreeB (CS : Addr) : Sp := fun vs H _ E => ∃ v, vs = [v] ∧ BadF H v ∧ ∀ H', Same H H' → E (.ref CS) none H'
def spJudgeB (CS : Addr) : Sp := fun vs H _ E => ∃ v1 v2 v, vs = [v1, v2, v] ∧ BadF H v ∧ ∀ H', Same H H' → E (.ref CS) none H'
structure EB (K : PySem.W.Frag) (mg : Str → Option Value) (CS : Addr) : Prop where
  x : PySem.W.excIn K CS [.type "ValueError", .type "Exception", .type "BaseException", .type "object"] "ValueError.__new__" = true
  c : mg "BadKinds" = some (.ref CS)
  k : PySem.W.keepIn K (.ref CS) = true
  b : PySem.W.subIn K (.ref CS) (.type "BaseException") = some true
  t : PySem.W.typeIn K (.ref CS) = some (.type "type")
structure EBs (K : PySem.W.Frag) (mg : Str → Option Value) (CS : Addr) : Prop where
  e_BadKinds : EB K mg CS
section
variable {P : Program} {w : World} {K : PySem.W.Frag} {mg : Str → Option Value} {base : Heap} {C CO CA CU : Addr}
set_option maxHeartbeats 1000000 in
theorem ok_asc2 {f : Addr} {fd : FuncData} (F : Fun K "is_ascending" "is_ascending" sAsc f fd) (T : TxtAsc mg) : FnOk P w K mg base CX0 1 f fd ["rows"] spAsc2 := by
  refine F.ok scAsc (fun vs H Q E h => ?_) (fun cdv A outer s H vs Q E hr h => ?_)
  · obtain ⟨t, x, y, rfl, _⟩ := h
    rfl
  · obtain ⟨t, x, y, rfl, ht, k⟩ := h
    have nd := scAsc.nd
    refine ⟨_, (pss_one (ps_ret (pe_callB (cr_all rfl) (by rfl) T.all (by decide +kernel) (pa_cons (pe_lc (own := [("low", 1), ("high", 2)]) (by rfl) nd (RZ.pi_zipA (by rfl) T.zip (pa_cons (pv 0) (pa_cons (pe_slice sl_tupA (pv 0) (po_some pe_int) po_none) pa_nil))) (blkOk_by (N := nAsc) (sc := defScope sAsc) (by decide +kernel)) (fun _ _ _ _ _ => (pg_tupK (K := K) (n := 2) rfl rfl (pgs_cons (pg_name (i := 1) nd rfl (Or.inl rfl)) (pgs_cons (pg_name (i := 2) nd rfl (Or.inl rfl)) pgs_nil)))) (fun _ _ _ _ _ => pts_nil) (fun _ _ _ _ _ => (pe_cmpR op_lt_str (pv 1) (pv 2) (nomark _)))) pa_nil)))), ?_⟩
    refine ⟨_, rfl, _, rfl, _, rfl, t, _, rfl, .inl (.inl ht), fun c => ?_, fun c b nb => ?_⟩
    · exact absurd (show min 1 2 = 0 from c.1) (by decide)
    · have e1 : Same H (upd H b (.tup (cutV [V.str x, V.str y] (some 1) none))) := same_new nb
      refine ⟨t, b, _, _, rfl, .inr ⟨.inl (.inl (e1 _ _ ht)), .inl (.inl upd_same), ?_⟩⟩
      have hb : (upd H b (.tup (cutV [V.str x, V.str y] (some 1) none))) b = some (.tup [V.str y]) := upd_same
      have ht1 := e1 _ _ ht
      generalize upd H b (.tup (cutV [V.str x, V.str y] (some 1) none)) = H1 at e1 hb ht1 ⊢
      intro D hD
      refine walk_zipT (K := K) (a := t) (b := b) (xs := [V.str x, V.str y]) (ys := [V.str y]) (Nat.le_succ 1) (fun i H' => H' D = some (.lst ((List.replicate i (decide (x.cps.toList < y.cps.toList))).map V.bl)) ∧ Same H1 H') ⟨upd_same, same_new hD⟩ (fun i H' ⟨_, e⟩ => ⟨.inl (.inl (e _ _ ht1)), .inl (.inl (e _ _ hb))⟩) ?_ ?_
      · rintro i u v T H2 hx hyi ⟨h1, e⟩ hT
        cases i with
        | succ i => cases hyi
        | zero =>
          cases (Option.some.inj hx : V.str x = u)
          cases (Option.some.inj hyi : V.str y = v)
          refine ⟨T, _, rfl, SqT.of upd_same, rfl, ?_⟩
          refine ⟨_, _, rfl, _, _, rfl, rfl, ?_⟩
          refine ⟨rfl, _, rfl, _, rfl, x, y, rfl, rfl, ?_⟩
          have eT : Same H2 (upd H2 T (.tup [V.str x, V.str y])) := same_new hT
          refine ⟨_, eT _ _ h1, by rw [List.length_map, List.length_replicate, sizeLine_eq]; omega, ?_, fun b o w => ?_⟩
          · rw [upd_same]; rfl
          · rw [upd_ne (ne_of_none w hD)]; exact eT _ _ (e _ _ w)
      · rintro H2 ⟨h1, e⟩
        have hb1 : ([decide (x.cps.toList < y.cps.toList)].all id) = decide (x.cps.toList < y.cps.toList) := by rw [List.all_cons, List.all_nil, Bool.and_true]; rfl
        exact ⟨D, _, rfl, SqL.of h1, by
          rw [show (List.replicate ([V.str y] : List V).length (decide (x.cps.toList < y.cps.toList))) = [decide (x.cps.toList < y.cps.toList)] from rfl, hb1]
          exact k H2 (e1.trans e)⟩
set_option maxHeartbeats 1000000 in
theorem okB_free {f CS fW fA : Addr} {fd fdW fdA : FuncData} (F : Fun K "check_free" "check_free" sFree f fd) (T : TxtFr K mg CS fW fA) (G_is_word : FnOk P w K mg base CX0 1 fW fdW ["value"] (spWord K)) (b_is_word : Binds K fdW ["value"] [])
    (G_is_ascending : FnOk P w K mg base CX0 1 fA fdA ["rows"] spAsc2) (b_is_ascending : Binds K fdA ["rows"] []) : FnOk P w K mg base (L2.CX P w) 2 f fd ["kinds"] (spFreeB CS) := by
  refine F.okX scFree (fun vs H Q E h => ?_) (fun cdv A outer s H vs Q E hr h => ?_)
  · obtain ⟨v, rfl, _⟩ := h
    rfl
  · obtain ⟨v, rfl, bad, k⟩ := h
    have nd := scFree.nd
    have hr_is_word : Room 1 _ := hr
    have hr_is_ascending : Room 1 _ := hr
    have A_is_word : At1 K mg "is_word" fW := ⟨T.g_is_word, T.k_is_word⟩
    have A_is_ascending : At1 K mg "is_ascending" fA := ⟨T.g_is_ascending, T.k_is_ascending⟩
    have R : EBs K mg CS := ⟨⟨T.x_BadKinds, T.c_BadKinds, T.k_BadKinds, T.b_BadKinds, T.t_BadKinds⟩⟩
    refine ⟨_, (pss_cons (ps_if (PW.pt (pw_or (pt_not (pt_val (pe_callB call_isi (by rfl) T.isinstance (by decide +kernel) (pa_cons (pv 0) (pa_cons (pe_bltn (v := .ty "tuple") (by rfl) T.tuple (by decide +kernel) rfl) pa_nil))))) (pw_or1 (pt_not (pt_val (pe_callB (cr_all rfl) (by rfl) T.all (by decide +kernel) (pa_cons (pe_lc (own := [("kind", 1)]) (by rfl) nd (pi_tup (pv 0)) (blkOk_by (N := nFree) (sc := defScope sFree) (by decide +kernel)) (fun _ _ _ _ _ => (pg_name (i := 1) nd rfl (Or.inl rfl))) (fun _ _ _ _ _ => pts_nil) (fun _ _ _ _ _ => (pe_call G_is_word hr_is_word (by rfl) A_is_word.g A_is_word.k b_is_word .nil pass0 (pa_cons (pv 1) pa_nil)))) pa_nil)))))))
        (pss_one (ps_raise rfl (takes_of rfl rfl rfl rfl) (pmk_own PySem.F.excBase_ValueError R.e_BadKinds.x R.e_BadKinds.c R.e_BadKinds.k (raises_own R.e_BadKinds.b R.e_BadKinds.t) (by rfl))))
        pss_nil)
      (pss_one (ps_if (pt_not (pt_val (pe_call G_is_ascending hr_is_ascending (by rfl) A_is_ascending.g A_is_ascending.k b_is_ascending .nil pass0 (pa_cons (pv 0) pa_nil))))
        (pss_one (ps_raise rfl (takes_of rfl rfl rfl rfl) (pmk_own PySem.F.excBase_ValueError R.e_BadKinds.x R.e_BadKinds.c R.e_BadKinds.k (raises_own R.e_BadKinds.b R.e_BadKinds.t) (by rfl))))
        pss_nil))), ?_⟩
    have turn : ∀ (D : Addr) (H1 : Hp) (q : Str) (i : Nat) (b : Bool), wordS q = b → q.length ≤ sizeLine → H D = none → H1 D = some (.lst ((List.replicate i b).map V.bl)) → Same H H1 → i < 3 → (upd H1 D (.lst ((List.replicate i b).map V.bl ++ [V.bl (wordB (.str q))]))) D = some (.lst ((List.replicate (i + 1) b).map V.bl)) ∧ Same H (upd H1 D (.lst ((List.replicate i b).map V.bl ++ [V.bl (wordB (.str q))]))) :=
      fun D H1 q i b hb lq hD h1 e lt => ⟨by rw [upd_same, show wordB (.str q) = b from hb, List.replicate_succ', List.map_append]; rfl, fun b o z => by rw [upd_ne (ne_of_none z hD)]; exact e _ _ z⟩
    cases bad with
    | non =>
      have pl : Pl K H .non "NoneType" := .non
      exact ⟨_, rfl, .non, .ty "tuple", _, _, _, rfl, .ty "tuple", pl.tyX, pl.kit "tuple" (.inr (.inl rfl)), _, rfl, iteT (iteT (k H fun _ _ z => z))⟩
    | @lst a xs h =>
      have pl : Pl K H (.ref a) "list" := .lst h
      exact ⟨_, rfl, .ref a, .ty "tuple", _, _, _, rfl, .ty "tuple", pl.tyX, pl.kit "tuple" (.inr (.inl rfl)), _, rfl, iteT (iteT (k H fun _ _ z => z))⟩
    | @word t x ht n l =>
      have pl : Pl K H (.ref t) "tuple" := .tup ht
      refine ⟨_, rfl, .ref t, .ty "tuple", _, _, _, rfl, .ty "tuple", pl.tyX, pl.kit "tuple" (.inr (.inl rfl)), _, rfl, ?_⟩
      refine iteF ⟨_, rfl, t, rfl, ⟨_, SqT.of ht⟩, fun D hD => lc_tup (K := K) (a := t) (xs := [.str x]) (fun i H' => H' D = some (.lst ((List.replicate i false).map V.bl)) ∧ Same H H') ⟨upd_same, same_new hD⟩ (fun i H' _ ⟨_, e⟩ => SqT.of (e _ _ ht)) ?_ ?_⟩
      · rintro i u H1 hx ⟨h1, e⟩
        cases i with
        | succ i => cases hx
        | zero =>
          cases (Option.some.inj hx : V.str x = u)
          obtain ⟨g1, g2⟩ := turn D H1 x 0 false n l hD h1 e (by decide)
          exact ⟨rfl, _, rfl, .str x, "str", rfl, .str l, _, h1, by rw [List.length_map, List.length_replicate, sizeLine_eq]; omega, g1, g2⟩
      · rintro H1 ⟨h1, e⟩
        exact ⟨D, _, rfl, SqL.of h1, _, rfl, iteT (k H1 e)⟩
    | @desc t x y ht w1 w2 n =>
      have pl : Pl K H (.ref t) "tuple" := .tup ht
      have len : ∀ q : Str, wordS q = true → q.length ≤ sizeLine := fun q wq => wordE_len (by show (_ || wordS q) = true; rw [wq, Bool.or_true])
      refine ⟨_, rfl, .ref t, .ty "tuple", _, _, _, rfl, .ty "tuple", pl.tyX, pl.kit "tuple" (.inr (.inl rfl)), _, rfl, ?_⟩
      refine iteF ⟨_, rfl, t, rfl, ⟨_, SqT.of ht⟩, fun D hD => lc_tup (K := K) (a := t) (xs := [.str x, .str y]) (fun i H' => H' D = some (.lst ((List.replicate i true).map V.bl)) ∧ Same H H') ⟨upd_same, same_new hD⟩ (fun i H' _ ⟨_, e⟩ => SqT.of (e _ _ ht)) ?_ ?_⟩
      · rintro i u H1 hx ⟨h1, e⟩
        have : (i = 0 ∧ u = .str x) ∨ (i = 1 ∧ u = .str y) := by
          match i, hx with
          | 0, hx => exact .inl ⟨rfl, (Option.some.inj hx).symm⟩
          | 1, hx => exact .inr ⟨rfl, (Option.some.inj hx).symm⟩
          | i + 2, hx => cases hx
        rcases this with ⟨rfl, rfl⟩ | ⟨rfl, rfl⟩
        · obtain ⟨g1, g2⟩ := turn D H1 x 0 true w1 (len x w1) hD h1 e (by decide)
          exact ⟨rfl, _, rfl, .str x, "str", rfl, .str (len x w1), _, h1, by rw [List.length_map, List.length_replicate, sizeLine_eq]; omega, g1, g2⟩
        · obtain ⟨g1, g2⟩ := turn D H1 y 1 true w2 (len y w2) hD h1 e (by decide)
          exact ⟨rfl, _, rfl, .str y, "str", rfl, .str (len y w2), _, h1, by rw [List.length_map, List.length_replicate, sizeLine_eq]; omega, g1, g2⟩
      · rintro H1 ⟨h1, e⟩
        refine ⟨D, _, rfl, SqL.of h1, _, rfl, iteF ?_⟩
        refine ⟨_, rfl, t, x, y, rfl, e _ _ ht, fun H2 e2 => ⟨_, rfl, ?_⟩⟩
        rw [n]
        exact iteT (k H2 (e.trans e2))
set_option maxHeartbeats 1000000 in
theorem okB_ju {CS f fF fO fS fA fW fT fIA fIU : Addr} {fd fdF fdO fdS fdA fdW fdT fdIA fdIU : FuncData} (F : Fun K "judge_alike" "judge_alike" sJu f fd) (T : TxtJ K mg CO CA CU)
    (A_check_free : At1 K mg "check_free" fF) (G_check_free : FnOk P w K mg base (L2.CX P w) 2 fF fdF ["kinds"] (spFreeB CS)) (b_check_free : Binds K fdF ["kinds"] [])
    (A_outlook_of : At1 K mg "outlook_of" fO) (G_outlook_of : FnOk P w K mg base CX0 3 fO fdO ["machine", "free"] (spOut C CO)) (b_outlook_of : Binds K fdO ["machine", "free"] [])
    (M_spread : Meth K CO "spread" fS) (G_spread : FnOk P w K mg base CX0 2 fS fdS ["self", "states"] (spSpread CO)) (b_spread : Binds K fdS ["self", "states"] [])
    (M_after : Meth K CO "after" fA) (G_after : FnOk P w K mg base CX0 3 fA fdA ["self", "states", "word"] (spAfter CO)) (b_after : Binds K fdA ["self", "states", "word"] [])
    (M_words_at : Meth K CO "words_at" fW) (G_words_at : FnOk P w K mg base CX0 2 fW fdW ["self", "states"] (spWordsAt CO)) (b_words_at : Binds K fdW ["self", "states"] [])
    (A_trace_to : At1 K mg "trace_to" fT) (G_trace_to : FnOk P w K mg base CX0 2 fT fdT ["origins", "at"] spTraceTo) (b_trace_to : Binds K fdT ["origins", "at"] [])
    (M_Alike : Mk K CA fIA) (G_Alike : FnOk P w K mg base CX0 1 fIA fdIA ["self", "pairs"] (spAI CA)) (b_Alike : Binds K fdIA ["self", "pairs"] [])
    (M_Unlike : Mk K CU fIU) (G_Unlike : FnOk P w K mg base CX0 1 fIU fdIU ["self", "trace", "is_first"] (spUI CU)) (b_Unlike : Binds K fdIU ["self", "trace", "is_first"] []) :
    FnOk P w K mg base (L2.CX P w) 4 f fd ["one", "other", "free"] (spJudgeB CS) := by
  refine F.okX scJu (fun vs H Q E h => ?_) (fun cdv A outer s H vs Q E hr h => ?_)
  · obtain ⟨v1, v2, v, rfl, _⟩ := h
    rfl
  · obtain ⟨v1, v2, v, rfl, bad, k⟩ := h
    have nd := scJu.nd
    have hu1 : _ < cLine := hr.in1.units0
    have hu := hr.units
    have hr_check_free : Room 2 _ := hr.mono (by decide)
    have hr_outlook_of : Room 3 _ := hr.mono (by decide)
    have hr_spread : Room 2 _ := hr.mono (by decide)
    have hr_after : Room 3 _ := hr.mono (by decide)
    have hr_words_at : Room 2 _ := hr.mono (by decide)
    have hr_trace_to : Room 2 _ := hr.mono (by decide)
    have hr_Alike : Room 2 _ := hr.mono (by decide)
    have hr_Unlike : Room 2 _ := hr.mono (by decide)
    refine ⟨_, (pss_cons (ps_expr (pe_callS G_check_free hr_check_free (by rfl) A_check_free.g A_check_free.k b_check_free (E := fun _ => E) (fun σ => passAt (takes_of rfl rfl rfl rfl) σ) (pa_cons (pv 2) pa_nil)))
      (PSs.nox (pss_cons (ps_par (i := 3) (j := 4) (by rfl) nd rfl rfl (by decide) rfl rfl (pa_cons (pe_call G_outlook_of hr_outlook_of (by rfl) A_outlook_of.g A_outlook_of.k b_outlook_of .nil pass0 (pa_cons (pv 0) (pa_cons (pv 2) pa_nil))) (pa_cons (pe_call G_outlook_of hr_outlook_of (by rfl) A_outlook_of.g A_outlook_of.k b_outlook_of .nil pass0 (pa_cons (pv 1) (pa_cons (pv 2) pa_nil))) pa_nil)) (by rfl))
      (pss_cons (ps_par3 (i := 5) (j := 6) (l := 7) (by rfl) nd rfl rfl rfl (by decide) (by decide) (by decide) rfl rfl rfl (pa_cons (pe_lst (pa_cons (pe_tup (pa_cons (pe_meth (pv 3) T.Outlook.cl M_spread G_spread hr_spread b_spread .nil pass0 (pa_cons (pe_lst (pa_cons pe_int pa_nil)) pa_nil)) (pa_cons (pe_meth (pv 4) T.Outlook.cl M_spread G_spread hr_spread b_spread .nil pass0 (pa_cons (pe_lst (pa_cons pe_int pa_nil)) pa_nil)) pa_nil))) pa_nil)) (pa_cons (pe_lst (pa_cons pe_non pa_nil)) (pa_cons pe_int pa_nil))) (by rfl))
      (pss_cons (ps_set (i := 8) nd rfl (Or.inl rfl) (MX.pe_dispX hu (pps_cons (pe_ix ix_list (pv 5) pe_int (fun _ _ => rfl)) pe_bl pps_nil) (by rfl) (by rfl) (fun z => by cases z) (by decide)))
      (pss_cons (ps_while PassesOwn.never (pt_cmpR op_lt (pv 7) (pe_callB call_len_seq (by rfl) T.len PySem.boot_len (pa_cons (pv 5) pa_nil)) (nomark _))
        (pss_cons (ps_asg (pe_ix ix_list (pv 5) (pv 7) (fun _ _ => rfl)) (pg_tup rfl (pgs_cons (pg_name (i := 9) nd rfl (Or.inl rfl)) (pgs_cons (pg_name (i := 10) nd rfl (Or.inl rfl)) pgs_nil))))
        (pss_cons (ps_for PassesOwn.never rfl (pi_list (pe_callB (MX.cr_sortedQ rfl hu) (by rfl) T.sorted (by decide +kernel) (pa_cons (pe_callTy (MX.cr_setQ rfl hu) (by rfl) T.set (by decide +kernel) (pa_cons (pe_op op_cat (pe_meth (pv 3) T.Outlook.cl M_words_at G_words_at hr_words_at b_words_at .nil pass0 (pa_cons (pv 9) pa_nil)) (pe_meth (pv 4) T.Outlook.cl M_words_at G_words_at hr_words_at b_words_at .nil pass0 (pa_cons (pv 10) pa_nil))) pa_nil)) pa_nil))) (pg_name (i := 11) nd rfl (Or.inl rfl))
          (pss_cons (ps_set (i := 12) nd rfl (Or.inl rfl) (pe_tup (pa_cons (pe_meth (pv 3) T.Outlook.cl M_after G_after hr_after b_after .nil pass0 (pa_cons (pv 9) (pa_cons (pv 11) pa_nil))) (pa_cons (pe_meth (pv 4) T.Outlook.cl M_after G_after hr_after b_after .nil pass0 (pa_cons (pv 10) (pa_cons (pv 11) pa_nil))) pa_nil))))
          (pss_cons (ps_if (PW.pt (pw_or (pt_not (pt_truth (pe_ix ix_tup (pv 12) pe_int (fun _ _ => rfl)) (by intro _; rfl))) (pw_or1 (pt_not (pt_truth (pe_ix ix_tup (pv 12) pe_int (fun _ _ => rfl)) (by intro _; rfl))))))
            (pss_one (ps_ret (pe_make M_Unlike G_Unlike hr_Unlike (by rfl) T.Unlike.g b_Unlike .nil pass0 (pa_cons (pe_op op_cat (pe_call G_trace_to hr_trace_to (by rfl) A_trace_to.g A_trace_to.k b_trace_to .nil pass0 (pa_cons (pv 6) (pa_cons (pv 7) pa_nil))) (pe_lst (pa_cons (pv 11) pa_nil))) (pa_cons (pe_callTy MX.call_boolT (by rfl) T.bool (by decide +kernel) (pa_cons (pe_ix ix_tup (pv 12) pe_int (fun _ _ => rfl)) pa_nil)) pa_nil)))))
            pss_nil)
          (pss_one (ps_if (pt_cmpR (MX.op_notInX hu) (pv 12) (pv 8) rfl)
            (pss_cons (MX.ps_putX hu (pv 8) (pv 12) pe_bl rfl)
            (pss_cons (ps_expr (pe_bm PySem.F.plainAttrs_list PySem.F.slot_list_append PySem.F.type_list_append mt_append (pv 5) (pa_cons (pv 12) pa_nil)))
            (pss_one (ps_expr (pe_bm PySem.F.plainAttrs_list PySem.F.slot_list_append PySem.F.type_list_append mt_append (pv 6) (pa_cons (pe_tup (pa_cons (pv 7) (pa_cons (pv 11) pa_nil))) pa_nil))))))
            pss_nil)))))
        (pss_one (ps_aug (i := 7) nd rfl (Or.inl rfl) pe_int ip_add)))))
      (pss_one (ps_ret (pe_make M_Alike G_Alike hr_Alike (by rfl) T.Alike.g b_Alike .nil pass0 (pa_cons (pv 5) pa_nil)))))))))), ?_⟩
    exact into ⟨_, rfl, v, rfl, bad, fun H1 e1 => k H1 e1⟩
end
end K1
end
section
/-! The law's own look at what unseen steps lead to. -/
namespace K1
open PySem L2
open MX (Rise Up)
theorem gN {i : Nat} {v : V} {σ : L2.St} {H : Hp} {Q : L2.St → Hp → Prop} (h : Q (σ.set i (some v)) H) : gName i v σ H Q := h
theorem flat_ints : ∀ ns : List Int, (ns.map V.int).all flatV = true
  | [] => rfl
  | _ :: ns => by rw [List.map_cons, List.all_cons, flat_ints ns]; rfl
theorem inV_int (x : Int) (ns : List Int) : inV (.int x) (ns.map V.int) = decide (x ∈ ns) := by
  rw [Bool.eq_iff_iff, decide_eq_true_iff]
  unfold inV
  rw [List.any_map, List.any_eq_true]
  constructor
  · rintro ⟨k, hk, e⟩
    have z : (k == x) = true := e
    rw [← beq_iff_eq.mp z]; exact hk
  · intro h
    exact ⟨x, h, (beq_self_eq_true x : (x == x) = true)⟩
/-- the steps that lead on -/
def onF (ks : List Str) (ns : List Int) (wd : Str) (s : Stp) : Bool := decide (s.a ∈ ns) && decide (s.s = wd) && isOpen ks s
theorem mem_onF {sts : List Stp} {ks : List Str} {ns : List Int} {wd : Str} {x : Int} : x ∈ (sts.filter (onF ks ns wd)).map Stp.g ↔ x ∈ goals (sts.filter (isOpen ks)) ns wd := by
  rw [mem_goals, List.mem_map]
  constructor
  · rintro ⟨s, hs, rfl⟩
    obtain ⟨h1, h2⟩ := List.mem_filter.mp hs
    unfold onF at h2
    simp only [Bool.and_eq_true, decide_eq_true_eq] at h2
    exact ⟨s, List.mem_filter.mpr ⟨h1, h2.2⟩, h2.1.2, h2.1.1, rfl⟩
  · rintro ⟨s, hs, e, ha, rfl⟩
    obtain ⟨h1, h2⟩ := List.mem_filter.mp hs
    refine ⟨s, List.mem_filter.mpr ⟨h1, ?_⟩, rfl⟩
    unfold onF
    simp only [Bool.and_eq_true, decide_eq_true_eq]
    exact ⟨⟨ha, e⟩, h2⟩
def spQuiet : Sp := fun vs H Q _ => ∃ (sA fr a : Addr) (xs : List V) (sts : List Stp) (ks : List Str) (m : Int) (ns : List Int), vs = [.ref sA, .ref fr, .ref a] ∧ H sA = some (.tup xs) ∧ Row H xs sts ∧ (∀ s ∈ sts, OkS m s) ∧ sts.length < 64 ∧ m < 60 ∧ H fr = some (.tup (ks.map V.str)) ∧ H a = some (.lst (ns.map V.int)) ∧ ns.length < 64 ∧ InR m ns ∧
  ∀ H' t, Same H H' → H' t = some (.tup ((spr (sts.filter (isOpen ks)) m ns).map V.int)) → Q (.ref t) H'
def spLBe : Sp := fun vs H Q _ => ∃ (sA fr a : Addr) (xs : List V) (sts : List Stp) (ks : List Str) (m : Int) (ns : List Int) (wd : Str), vs = [.ref sA, .ref fr, .ref a, .str wd] ∧ H sA = some (.tup xs) ∧ Row H xs sts ∧ (∀ s ∈ sts, OkS m s) ∧ sts.length < 64 ∧ m < 60 ∧ H fr = some (.tup (ks.map V.str)) ∧ H a = some (.tup (ns.map V.int)) ∧ InR m ns ∧
  ∀ H' t, Same H H' → H' t = some (.tup ((aft (sts.filter (isOpen ks)) m ns wd).map V.int)) → Q (.ref t) H'
/-- sorted(set(..)) of a list of numbers -/
theorem sort_set {K : PySem.W.Frag} {P : Program} {w : World} {H : Hp} {a : Addr} {ns : List Int} {R : VK} (hs : SqL K H a (ns.map V.int)) (l : ns.length < 4096)
    (k : ∀ (H' : Hp) (q : Addr) (fs : List Int), Same H H' → H q = none → H' q = some (.lst (fs.map V.int)) → fs.Pairwise (· < ·) → (∀ x, x ∈ fs ↔ x ∈ ns) → R (.ref q) H') : MX.rSetQ K P w [.ref a] H (fun v H1 => MX.rSortedQ P w [v] H1 R) := by
  refine ⟨a, ns.map Sum.inl, rfl, .inl (by rw [ints_keys]; exact hs), by rw [List.length_map]; exact l, fun s S n new mem le => ⟨s, S, n, true, rfl, upd_same, fun k hk => ?_, fun M q up hM lenM nq => ?_⟩⟩
  · obtain ⟨x, _, e⟩ := List.mem_map.mp ((mem k).mp hk)
    rw [← e]; rfl
  obtain ⟨fs, rfl⟩ := lefts fun k hk => by
    obtain ⟨x, _, e⟩ := List.mem_map.mp ((mem k).mp ((hM k).mp hk))
    rw [← e]; rfl
  have e1 : Same H (upd H s (MX.SetQO P w s S n)) := same_new new
  refine k _ q fs (e1.trans (same_new nq)) (e1.free nq) (by rw [upd_same, ints_keys]) ?_ fun x => ?_
  · have z : Up (fs.map Sum.inl) := up
    exact (List.Pairwise.of_map Sum.inl (fun a b (h : MX.kl (.inl a) (.inl b) = true) => by rw [MX.kl_int] at h; exact of_decide_eq_true h) z)
  · rw [← mem_inl, hM, mem, mem_inl]
theorem spr_of {ts : List Stp} {m : Int} {ns fs : List Int} (asc : fs.Pairwise (· < ·)) (inr : InR m fs) (sub : ∀ x ∈ ns, x ∈ fs) (cl : Closed ts fs) (only : ∀ x ∈ fs, Clo ts ns x) : fs = spr ts m ns :=
  spr_is (asc.imp fun h => Int.le_of_lt h) (asc.imp fun h e => by rw [e] at h; exact Int.lt_irrefl _ h) inr sub cl only
def quM (mv : Int) (n : Nat) : Nat := 2 * (60 - n) + (if mv = (n : Int) then 0 else 1)
theorem quM_lt {mv : Int} {n k : Nat} (h : n ≤ k) (l : k < 60) (c : ¬ mv = (n : Int)) : quM (n : Int) k < quM mv n := by
  unfold quM
  rw [if_neg c]
  split <;> omega
structure TxtQu (mg : Str → Option Value) : Prop where
  len : mg "len" = none
  set : mg "set" = none
  sorted : mg "sorted" = none
  tuple : mg "tuple" = none
section
variable {P : Program} {w : World} {K : PySem.W.Frag} {mg : Str → Option Value} {base : Heap}
abbrev sQu : Stmt := top 33
abbrev nQu : List Str := ["steps", "free", "states", "found", "many", "near", "step"]
theorem scQu : FnScope nQu ["steps", "free", "states"] (defScope sQu) := ⟨rfl, rfl, rfl, by decide +kernel, rfl, by decide +kernel, by decide +kernel⟩
set_option maxHeartbeats 1000000 in
theorem ok_quiet {f : Addr} {fd : FuncData} (F : Fun K "_law_quiet" "_law_quiet" sQu f fd) (T : TxtQu mg) : FnOk P w K mg base CX0 1 f fd ["steps", "free", "states"] spQuiet := by
  refine F.ok scQu (fun vs H Q E h => ?_) (fun cdv A outer s H vs Q E hr h => ?_)
  · obtain ⟨sA, fr, a, xs, sts, ks, m, ns, rfl, _⟩ := h
    rfl
  · obtain ⟨sA, fr, a, xs, sts, ks, m, ns, rfl, hA, row, oks, few, m60, hf, ha, fewn, inr, k⟩ := h
    have nd := scQu.nd
    have hu := hr.units
    refine ⟨_, (pss_cons (ps_asg (pe_tup (pa_cons (pe_callB (MX.cr_sortedQ rfl hu) (by rfl) T.sorted (by decide +kernel) (pa_cons (pe_callTy (MX.cr_setQ rfl hu) (by rfl) T.set (by decide +kernel) (pa_cons (pv 2) pa_nil)) pa_nil)) (pa_cons (pe_un un_neg pe_int) pa_nil))) (pg_tup rfl (pgs_cons (pg_name (i := 3) nd rfl (Or.inr rfl)) (pgs_cons (pg_name (i := 4) nd rfl (Or.inl rfl)) pgs_nil))))
      (pss_cons (ps_while PassesOwn.never (pt_cmpR op_ne (pv 4) (pe_callB call_len_seq (by rfl) T.len PySem.boot_len (pa_cons (pv 3) pa_nil)) (nomark _))
        (pss_cons (ps_set (i := 4) nd rfl (Or.inl rfl) (pe_callB call_len_seq (by rfl) T.len PySem.boot_len (pa_cons (pv 3) pa_nil)))
        (pss_cons (ps_setLc (i := 5) (own := [("step", 6)]) (by rfl) nd rfl rfl (sw_true rfl rfl rfl (by decide +kernel)) (pi_tup (pv 0)) (blkOk_by (N := nQu) (sc := defScope sQu) (by decide +kernel)) (fun _ _ _ _ _ => (pg_name (i := 6) nd rfl (Or.inl rfl))) (fun _ _ _ _ _ => pts_one (PW.pt (pw_and (pt_cmpR (op_in_seqK (K := K) rfl) (pe_ix (ix_tupK (K := K) rfl) (pv 6) pe_int (fun _ _ => rfl)) (pv 3) rfl) (pw_and (pt_cmpR op_eq (pe_ix (ix_tupK (K := K) rfl) (pv 6) pe_int (fun _ _ => rfl)) pe_str (nomark _)) (pw_and1 (PW.pt (pw_or (pt_cmpR op_eq (pe_ix (ix_tupK (K := K) rfl) (pv 6) pe_int (fun _ _ => rfl)) pe_str (nomark _)) (pw_or1 (pt_cmpR (op_in_seqK (K := K) rfl) (pe_ix (ix_tupK (K := K) rfl) (pv 6) pe_int (fun _ _ => rfl)) (pv 1) rfl))))))))) (fun _ _ _ _ _ => (pe_ix (ix_tupK (K := K) rfl) (pv 6) pe_int (fun _ _ => rfl))))
        (pss_one (ps_set (i := 3) nd rfl (Or.inr rfl) (pe_callB (MX.cr_sortedQ rfl hu) (by rfl) T.sorted (by decide +kernel) (pa_cons (pe_callTy (MX.cr_setQ rfl hu) (by rfl) T.set (by decide +kernel) (pa_cons (pe_op op_cat (pv 3) (pv 5)) pa_nil)) pa_nil)))))))
      (pss_one (ps_ret (pe_callTy call_tuple_of (by rfl) T.tuple (by decide +kernel) (pa_cons (pv 3) pa_nil)))))), ?_⟩
    generalize hts : sts.filter (isOpen ks) = ts at k
    have few' : ns.length < 4096 := by omega
    refine into ⟨_, rfl, ?_⟩
    dsimp only [tNil]
    refine sort_set (SqL.of ha) few' fun H1 l fs e1 nl hl asc mem => ?_
    refine ⟨1, rfl, by show 2 ≤ sizeLine; decide, fun tt nt => ⟨tt, _, rfl, SqT.of upd_same, rfl, _, _, rfl, _, _, rfl, rfl, ?_⟩⟩
    have e2 : Same H1 (upd H1 tt (.tup [V.ref l, V.int (-1)])) := same_new nt
    have hl2 := e2 _ _ hl
    have e02 := e1.trans e2
    generalize upd H1 tt (.tup [V.ref l, V.int (-1)]) = H2 at e2 hl2 e02
    refine into (while_by (fun σ H' => ∃ (l : Addr) (fs : List Int) (mv : Int) (v5 v6 : Option V), σ = [some (.ref sA), some (.ref fr), some (.ref a), some (.ref l), some (.int mv), v5, v6] ∧ Same H H' ∧ H' l = some (.lst (fs.map V.int)) ∧ fs.Pairwise (· < ·) ∧ (∀ x ∈ ns, x ∈ fs) ∧ InR m fs ∧ (∀ x ∈ fs, Clo ts ns x) ∧ (mv = (fs.length : Int) → Closed ts fs) ∧ mv ≤ (fs.length : Int))
      (fun (σ : L2.St) H' => match σ[3]?, σ[4]? with | some (some (V.ref l)), some (some (V.int mv)) => (match H' l with | some (.lst xs) => quM mv xs.length | _ => 0) | _, _ => 0)
      ⟨l, fs, -1, none, none, rfl, e02, hl2, asc, fun x hx => (mem x).mpr hx, fun x hx => inr x ((mem x).mp hx), fun x hx => ⟨x, (mem x).mp hx, .refl⟩, fun z => by omega, by omega⟩ ?_ ?_)
    · rintro σ H3 ⟨l, fs, mv, v5, v6, rfl, e3, hl3, asc3, sub3, inr3, clo3, clos3, le3⟩
      have ndf : fs.Nodup := asc3.imp fun h e => by rw [e] at h; exact Int.lt_irrefl _ h
      have lf := few_ints ndf inr3
      have f60 : fs.length < 60 := by omega
      refine ⟨_, rfl, _, rfl, l, _, rfl, .inl (SqL.of hl3), rfl, _, rfl, ?_⟩
      rw [List.length_map]
      by_cases c : mv = (fs.length : Int)
      · refine iteF' (by simp [c]) ?_
        have ef := spr_of asc3 inr3 sub3 (clos3 c) clo3
        refine ⟨_, rfl, l, _, rfl, .inl ⟨SqL.of hl3, fun q nq => ?_⟩⟩
        exact k _ q (e3.trans (same_new nq)) (by rw [upd_same, ef])
      · refine iteT' (by simp [c]) ?_
        refine into ⟨_, rfl, l, _, rfl, .inl (SqL.of hl3), ?_⟩
        rw [List.length_map]
        refine into ?_
        have hA3 := e3 _ _ hA
        refine ⟨_, rfl, sA, rfl, ⟨_, SqT.of hA3⟩, fun D hD => lc_tup (K := K) (a := sA) (xs := xs) (fun i H' => H' D = some (.lst (((sts.take i).filter (onF ks fs (Str.ofString ""))).map fun s => V.int s.g)) ∧ Same H3 H') ⟨by rw [List.take_zero]; exact upd_same, same_new hD⟩ (fun i H' _ ⟨_, e⟩ => SqT.of (e _ _ hA3)) ?_ ?_⟩
        · rintro i x H5 hx ⟨h1, e5⟩
          obtain ⟨s, hs, q, rfl, hq⟩ := row.get hx
          have hq5 := e5 _ _ (e3 _ _ hq)
          have lt : i < sts.length := (List.getElem?_eq_some_iff.mp hs).1
          have ft := filter_take hs (onF ks fs (Str.ofString ""))
          have skip : onF ks fs (Str.ofString "") s = false → H5 D = some (.lst (((sts.take (i + 1)).filter (onF ks fs (Str.ofString ""))).map fun s => V.int s.g)) ∧ Same H3 H5 := fun c => by
            rw [ft, if_neg (by rw [c]; exact Bool.false_ne_true), List.append_nil]
            exact ⟨h1, e5⟩
          have put : onF ks fs (Str.ofString "") s = true → ∃ acc, H5 D = some (.lst acc) ∧ acc.length < sizeLine ∧ (upd H5 D (.lst (acc ++ [V.int s.g]))) D = some (.lst (((sts.take (i + 1)).filter (onF ks fs (Str.ofString ""))).map fun s => V.int s.g)) ∧ Same H3 (upd H5 D (.lst (acc ++ [V.int s.g]))) := fun c => by
            refine ⟨_, h1, ?_, ?_, fun b o z => by rw [upd_ne (ne_of_none z hD)]; exact e5 _ _ z⟩
            · have := List.length_filter_le (onF ks fs (Str.ofString "")) (sts.take i)
              have := List.length_take_le i sts
              rw [List.length_map, sizeLine_eq]; omega
            · rw [upd_same, ft, if_pos c, List.map_append]; rfl
          refine ⟨rfl, _, rfl, q, _, _, _, rfl, rfl, SqT.of hq5, at_0 s, _, rfl, l, _, rfl, .inl (SqL.of (e5 _ _ hl3)), rfl, flat_ints fs, _, rfl, ?_⟩
          rw [inV_int]
          by_cases ca : s.a ∈ fs
          · rw [decide_eq_true ca]
            refine iteT ⟨_, rfl, q, _, _, _, rfl, rfl, SqT.of hq5, at_2 s, rfl, _, rfl, ?_⟩
            by_cases cs : s.s = Str.ofString ""
            · refine iteT' (by simp [cs]) ⟨_, rfl, q, _, _, _, rfl, rfl, SqT.of hq5, at_1 s, rfl, _, rfl, ?_⟩
              by_cases ck : s.k = Str.ofString ""
              · refine iteT' (by simp [ck]) (iteT ⟨_, rfl, q, _, _, _, rfl, rfl, SqT.of hq5, at_3 s, put ?_⟩)
                unfold onF isOpen
                simp [ca, cs, ck]
              · refine iteF' (by simp [ck]) ⟨_, rfl, q, _, _, _, rfl, rfl, SqT.of hq5, at_1 s, _, rfl, fr, _, rfl, .inr (SqT.of (e5 _ _ (e3 _ _ hf))), rfl, flat_strs ks, _, rfl, ?_⟩
                rw [inV_str]
                by_cases cf : s.k ∈ ks
                · rw [decide_eq_true cf]
                  refine iteT ⟨_, rfl, q, _, _, _, rfl, rfl, SqT.of hq5, at_3 s, put ?_⟩
                  unfold onF isOpen
                  simp [ca, cs, cf]
                · rw [decide_eq_false cf]
                  refine iteF (skip ?_)
                  unfold onF isOpen
                  simp [ck, cf]
            · refine iteF' (by simp [cs]) (iteF (skip ?_))
              unfold onF isOpen
              simp [cs]
          · rw [decide_eq_false ca]
            refine iteF (iteF (skip ?_))
            unfold onF isOpen
            simp [ca]
        · rintro H5 ⟨h1, e5⟩
          rw [row.length, List.take_length] at h1
          have h1' : H5 D = some (.lst (((sts.filter (onF ks fs (Str.ofString ""))).map Stp.g).map V.int)) := by rw [h1, List.map_map]; rfl
          generalize hns : (sts.filter (onF ks fs (Str.ofString ""))).map Stp.g = news at h1'
          have lnew : news.length < 64 := by
            rw [← hns, List.length_map]
            exact Nat.lt_of_le_of_lt (List.length_filter_le _ _) few
          refine into ⟨_, rfl, _, rfl, l, D, _, _, rfl, rfl, e5 _ _ hl3, h1', by rw [List.length_map, List.length_map, sizeLine_eq]; omega, fun cc nc => ?_⟩
          have e6 : Same H5 (upd H5 cc (.lst (fs.map V.int ++ news.map V.int))) := same_new nc
          have hc6 : (upd H5 cc (.lst (fs.map V.int ++ news.map V.int))) cc = some (.lst ((fs ++ news).map V.int)) := by rw [upd_same, List.map_append]
          generalize upd H5 cc (.lst (fs.map V.int ++ news.map V.int)) = H6 at e6 hc6
          dsimp only [tNil]
          refine sort_set (SqL.of hc6) (by rw [List.length_append]; omega) fun H7 l' gs e7 nl' hl' asc' mem' => ?_
          have hts' : ∀ x, x ∈ news ↔ ∃ t ∈ ts, t.s = Str.ofString "" ∧ t.a ∈ fs ∧ t.g = x := fun x => by rw [← hns, mem_onF, hts, mem_goals]
          have okt : ∀ t ∈ ts, OkS m t := fun t ht => oks t (by rw [← hts] at ht; exact (List.mem_filter.mp ht).1)
          have subg : ∀ x ∈ fs, x ∈ gs := fun x hx => (mem' x).mpr (List.mem_append_left _ hx)
          have ndg : gs.Nodup := asc'.imp fun h e => by rw [e] at h; exact Int.lt_irrefl _ h
          have leg : fs.length ≤ gs.length := short_any ndf subg
          have inrg : InR m gs := fun x hx => by
            rcases List.mem_append.mp ((mem' x).mp hx) with h | h
            · exact inr3 x h
            · obtain ⟨t, tm, _, _, tg⟩ := (hts' x).mp h
              have o := okt t tm
              rw [← tg]; exact ⟨o.2.2.1, o.2.2.2.1⟩
          have g60 : gs.length < 60 := by
            have := few_ints ndg inrg
            omega
          have e37 : Same H3 H7 := (e5.trans e6).trans e7
          refine gN ⟨⟨l', gs, (fs.length : Int), _, _, rfl, e3.trans e37, hl', asc', fun x hx => subg x (sub3 x hx), inrg, fun x hx => ?_, fun el => ?_, by omega⟩, ?_⟩
          · rcases List.mem_append.mp ((mem' x).mp hx) with h | h
            · exact clo3 x h
            · obtain ⟨t, tm, te, ta, tg⟩ := (hts' x).mp h
              obtain ⟨y, ym, yu⟩ := clo3 _ ta
              exact ⟨y, ym, by rw [← tg]; exact Un.step yu tm te⟩
          · have back : ∀ x ∈ gs, x ∈ fs := fun x hx => Classical.byContradiction fun no => by
              have z := short_any (l := x :: fs) (m := gs) (List.nodup_cons.mpr ⟨no, ndf⟩) fun y hy => by
                rcases List.mem_cons.mp hy with e | hy
                · rw [e]; exact hx
                · exact subg y hy
              rw [List.length_cons] at z
              omega
            exact fun t tm te ta => (mem' _).mpr (List.mem_append_right _ ((hts' _).mpr ⟨t, tm, te, back _ ta, rfl⟩))
          · show (match H7 l' with | some (.lst xs) => quM fs.length xs.length | _ => 0) < (match H3 l with | some (.lst xs) => quM mv xs.length | _ => 0)
            rw [hl', hl3]
            dsimp only
            rw [List.length_map, List.length_map]
            exact quM_lt leg (by omega) c
    · intro σ H2 Q1 Q2 hQ h
      obtain ⟨v, e1, v2, e2, p1, ys, e3, e4, sc, b, e7, q⟩ := h
      exact ⟨v, e1, v2, e2, p1, ys, e3, e4, sc, b, e7, hQ _ _ q⟩
abbrev sLBe : Stmt := top 34
abbrev nLBe : List Str := ["steps", "free", "states", "word", "step"]
theorem scLBe : FnScope nLBe ["steps", "free", "states", "word"] (defScope sLBe) := ⟨rfl, rfl, rfl, by decide +kernel, rfl, by decide +kernel, by decide +kernel⟩
set_option maxHeartbeats 1000000 in
theorem ok_lbe {f fQ : Addr} {fd fdQ : FuncData} (F : Fun K "_law_behind" "_law_behind" sLBe f fd) (A_law_quiet : At1 K mg "_law_quiet" fQ) (G_law_quiet : FnOk P w K mg base CX0 1 fQ fdQ ["steps", "free", "states"] spQuiet) (b_law_quiet : Binds K fdQ ["steps", "free", "states"] []) :
    FnOk P w K mg base CX0 2 f fd ["steps", "free", "states", "word"] spLBe := by
  refine F.ok scLBe (fun vs H Q E h => ?_) (fun cdv A outer s H vs Q E hr h => ?_)
  · obtain ⟨sA, fr, a, xs, sts, ks, m, ns, wd, rfl, _⟩ := h
    rfl
  · obtain ⟨sA, fr, a, xs, sts, ks, m, ns, wd, rfl, hA, row, oks, few, m60, hf, ha, inr, k⟩ := h
    have nd := scLBe.nd
    have hr_law_quiet : Room 1 _ := hr
    refine ⟨_, (pss_one (ps_ret (pe_call G_law_quiet hr_law_quiet (by rfl) A_law_quiet.g A_law_quiet.k b_law_quiet .nil pass0 (pa_cons (pv 0) (pa_cons (pv 1) (pa_cons (pe_lc (own := [("step", 4)]) (by rfl) nd (pi_tup (pv 0)) (blkOk_by (N := nLBe) (sc := defScope sLBe) (by decide +kernel)) (fun _ _ _ _ _ => (pg_name (i := 4) nd rfl (Or.inl rfl))) (fun _ _ _ _ _ => pts_one (PW.pt (pw_and (pt_cmpR (op_in_seqK (K := K) rfl) (pe_ix (ix_tupK (K := K) rfl) (pv 4) pe_int (fun _ _ => rfl)) (pv 2) rfl) (pw_and (pt_cmpR op_eq (pe_ix (ix_tupK (K := K) rfl) (pv 4) pe_int (fun _ _ => rfl)) (pv 3) (nomark _)) (pw_and1 (PW.pt (pw_or (pt_cmpR op_eq (pe_ix (ix_tupK (K := K) rfl) (pv 4) pe_int (fun _ _ => rfl)) pe_str (nomark _)) (pw_or1 (pt_cmpR (op_in_seqK (K := K) rfl) (pe_ix (ix_tupK (K := K) rfl) (pv 4) pe_int (fun _ _ => rfl)) (pv 1) rfl))))))))) (fun _ _ _ _ _ => (pe_ix (ix_tupK (K := K) rfl) (pv 4) pe_int (fun _ _ => rfl)))) pa_nil)))))), ?_⟩
    refine ⟨_, rfl, _, rfl, _, rfl, sA, rfl, ⟨_, SqT.of hA⟩, fun D hD => lc_tup (K := K) (a := sA) (xs := xs) (fun i H' => H' D = some (.lst (((sts.take i).filter (onF ks ns wd)).map fun s => V.int s.g)) ∧ Same H H') ⟨by rw [List.take_zero]; exact upd_same, same_new hD⟩ (fun i H' _ ⟨_, e⟩ => SqT.of (e _ _ hA)) ?_ ?_⟩
    · rintro i x H5 hx ⟨h1, e5⟩
      obtain ⟨s, hs, q, rfl, hq⟩ := row.get hx
      have hq5 := e5 _ _ hq
      have lt : i < sts.length := (List.getElem?_eq_some_iff.mp hs).1
      have ft := filter_take hs (onF ks ns wd)
      have skip : onF ks ns wd s = false → H5 D = some (.lst (((sts.take (i + 1)).filter (onF ks ns wd)).map fun s => V.int s.g)) ∧ Same H H5 := fun c => by
        rw [ft, if_neg (by rw [c]; exact Bool.false_ne_true), List.append_nil]
        exact ⟨h1, e5⟩
      have put : onF ks ns wd s = true → ∃ acc, H5 D = some (.lst acc) ∧ acc.length < sizeLine ∧ (upd H5 D (.lst (acc ++ [V.int s.g]))) D = some (.lst (((sts.take (i + 1)).filter (onF ks ns wd)).map fun s => V.int s.g)) ∧ Same H (upd H5 D (.lst (acc ++ [V.int s.g]))) := fun c => by
        refine ⟨_, h1, ?_, ?_, fun b o z => by rw [upd_ne (ne_of_none z hD)]; exact e5 _ _ z⟩
        · have := List.length_filter_le (onF ks ns wd) (sts.take i)
          have := List.length_take_le i sts
          rw [List.length_map, sizeLine_eq]; omega
        · rw [upd_same, ft, if_pos c, List.map_append]; rfl
      refine ⟨rfl, _, rfl, q, _, _, _, rfl, rfl, SqT.of hq5, at_0 s, _, rfl, a, _, rfl, .inr (SqT.of (e5 _ _ ha)), rfl, flat_ints ns, _, rfl, ?_⟩
      rw [inV_int]
      by_cases ca : s.a ∈ ns
      · rw [decide_eq_true ca]
        refine iteT ⟨_, rfl, q, _, _, _, rfl, rfl, SqT.of hq5, at_2 s, _, rfl, rfl, _, rfl, ?_⟩
        by_cases cs : s.s = wd
        · refine iteT' (by simp [cs]) ⟨_, rfl, q, _, _, _, rfl, rfl, SqT.of hq5, at_1 s, rfl, _, rfl, ?_⟩
          by_cases ck : s.k = Str.ofString ""
          · refine iteT' (by simp [ck]) (iteT ⟨_, rfl, q, _, _, _, rfl, rfl, SqT.of hq5, at_3 s, put ?_⟩)
            unfold onF isOpen
            simp [ca, cs, ck]
          · refine iteF' (by simp [ck]) ⟨_, rfl, q, _, _, _, rfl, rfl, SqT.of hq5, at_1 s, _, rfl, fr, _, rfl, .inr (SqT.of (e5 _ _ hf)), rfl, flat_strs ks, _, rfl, ?_⟩
            rw [inV_str]
            by_cases cf : s.k ∈ ks
            · rw [decide_eq_true cf]
              refine iteT ⟨_, rfl, q, _, _, _, rfl, rfl, SqT.of hq5, at_3 s, put ?_⟩
              unfold onF isOpen
              simp [ca, cs, cf]
            · rw [decide_eq_false cf]
              refine iteF (skip ?_)
              unfold onF isOpen
              simp [ck, cf]
        · refine iteF' (by simp [cs]) (iteF (skip ?_))
          unfold onF isOpen
          simp [cs]
      · rw [decide_eq_false ca]
        refine iteF (iteF (skip ?_))
        unfold onF isOpen
        simp [ca]
    · rintro H5 ⟨h1, e5⟩
      rw [row.length, List.take_length] at h1
      have h1' : H5 D = some (.lst (((sts.filter (onF ks ns wd)).map Stp.g).map V.int)) := by rw [h1, List.map_map]; rfl
      refine ⟨sA, fr, D, xs, sts, ks, m, _, rfl, e5 _ _ hA, row.same e5, oks, few, m60, e5 _ _ hf, h1', ?_, fun x hx => ?_, fun H6 t e6 ht => k H6 t (e5.trans e6) ?_⟩
      · rw [List.length_map]
        exact Nat.lt_of_le_of_lt (List.length_filter_le _ _) few
      · obtain ⟨s, hs, rfl⟩ := List.mem_map.mp hx
        have o := oks s (List.mem_filter.mp hs).1
        exact ⟨o.2.2.1, o.2.2.2.1⟩
      · rw [ht]
        unfold aft
        rw [spr_mem (ms := goals (sts.filter (isOpen ks)) ns wd) fun x => mem_onF]
end
end K1
end
section
/-! A search by levels. -/
namespace K1
open PySem L2
def abW : List Str := [Str.ofString "a", Str.ofString "b"]
def OverAB (w : List Str) : Prop := ∀ x ∈ w, x ∈ abW
/-- one is empty, the other is not -/
def Half (p : Node) : Prop := ¬ (p.1 = [] ↔ p.2 = [])
section
variable {ts1 ts2 : List Stp} {m1 m2 : Int}
variable (ts1 ts2 m1 m2) in
noncomputable def goN (w : List Str) : Node := (seen ts1 m1 w, seen ts2 m2 w)
theorem goN_snoc (w : List Str) (x : Str) : goN ts1 ts2 m1 m2 (w ++ [x]) = stpN ts1 ts2 m1 m2 (goN ts1 ts2 m1 m2 w) x := by
  unfold goN
  rw [seen_snoc, seen_snoc]; rfl
theorem half_diff (w : List Str) : Half (goN ts1 ts2 m1 m2 w) ↔ Diff ts1 ts2 m1 m2 w := by
  unfold Half Diff goN
  have pos : ∀ {xs : List Int}, 0 < xs.length ↔ xs ≠ [] := List.length_pos_iff
  simp only [ne_eq, decide_eq_decide, pos]
  exact ⟨fun h z => h (⟨fun a => Classical.byContradiction fun b => (z.mpr b) a, fun b => Classical.byContradiction fun a => (z.mp a) b⟩), fun h z => h (not_congr z)⟩
variable (ts1 ts2 m1 m2) in
/-- a letter leads on within what is found -/
def Cl (found : List Node) (p : Node) (x : Str) : Prop := ¬ Half (stpN ts1 ts2 m1 m2 p x) ∧ (okN (stpN ts1 ts2 m1 m2 p x) → stpN ts1 ts2 m1 m2 p x ∈ found)
theorem Cl.mono {f g : List Node} {p : Node} {x : Str} (h : Cl ts1 ts2 m1 m2 f p x) (s : ∀ q ∈ f, q ∈ g) : Cl ts1 ts2 m1 m2 g p x := ⟨h.1, fun o => s _ (h.2 o)⟩
theorem dead_stp {p : Node} {x : Str} (h1 : p.1 = []) (h2 : p.2 = []) : ¬ Half (stpN ts1 ts2 m1 m2 p x) ∧ ¬ okN (stpN ts1 ts2 m1 m2 p x) := by
  have a : (stpN ts1 ts2 m1 m2 p x).1 = [] := by show aft ts1 m1 p.1 x = []; rw [h1]; exact aft_nil
  have b : (stpN ts1 ts2 m1 m2 p x).2 = [] := by show aft ts2 m2 p.2 x = []; rw [h2]; exact aft_nil
  exact ⟨fun h => h ⟨fun _ => b, fun _ => a⟩, fun o => o.1 a⟩
theorem not_half {p : Node} (h : ¬ Half p) : okN p ∨ (p.1 = [] ∧ p.2 = []) := by
  have h' : (p.1 = [] ↔ p.2 = []) := Classical.byContradiction h
  rcases Classical.em (p.1 = []) with e | e
  · exact .inr ⟨e, h'.mp e⟩
  · exact .inl ⟨e, fun z => e (h'.mpr z)⟩
variable (ts1 ts2 m1 m2) in
/-- between two levels -/
structure Lv (found level : List Node) (n : Nat) : Prop where
  ok : ∀ p ∈ found, okN p
  sub : ∀ p ∈ level, p ∈ found
  lev : ∀ p ∈ level, ∃ w, OverAB w ∧ w.length = n ∧ p = goN ts1 ts2 m1 m2 w
  cov : ∀ w, OverAB w → w.length ≤ n → ¬ Half (goN ts1 ts2 m1 m2 w) ∧ (okN (goN ts1 ts2 m1 m2 w) → goN ts1 ts2 m1 m2 w ∈ found)
  clo : ∀ p ∈ found, p ∉ level → ∀ x ∈ abW, Cl ts1 ts2 m1 m2 found p x
  nod : found.Nodup
  good : ∀ p ∈ found, Good m1 m2 p
variable (ts1 ts2 m1 m2) in
/-- within a level -/
structure LvT (found0 level : List Node) (n : Nat) (late : List Node) (j d : Nat) : Prop where
  base : Lv ts1 ts2 m1 m2 found0 level n
  ok : ∀ p ∈ late, okN p
  lev : ∀ p ∈ late, ∃ w, OverAB w ∧ w.length = n + 1 ∧ p = goN ts1 ts2 m1 m2 w
  clo : ∀ p ∈ level.take j, ∀ x ∈ abW, Cl ts1 ts2 m1 m2 (found0 ++ late) p x
  cur : ∀ p, level[j]? = some p → ∀ x ∈ abW.take d, Cl ts1 ts2 m1 m2 (found0 ++ late) p x
  nod : (found0 ++ late).Nodup
  good : ∀ p ∈ late, Good m1 m2 p
variable {found late level : List Node} {n j d : Nat}
theorem Lv.start (h1 : 1 ≤ m1) (h2 : 1 ≤ m2) : Lv ts1 ts2 m1 m2 [startN ts1 ts2 m1 m2] [startN ts1 ts2 m1 m2] 0 where
  ok := fun p hp => by rw [List.mem_singleton.mp hp]; exact start_ok h1 h2
  sub := fun p hp => hp
  lev := fun p hp => ⟨[], (fun x h => by cases h), rfl, by rw [List.mem_singleton.mp hp]; rfl⟩
  cov := fun w _ l => by
    have e : w = [] := List.eq_nil_of_length_eq_zero (Nat.le_zero.mp l)
    subst e
    have o : okN (goN ts1 ts2 m1 m2 []) := start_ok h1 h2
    exact ⟨fun h => h ⟨fun z => absurd z o.1, fun z => absurd z o.2⟩, fun _ => List.mem_singleton.mpr rfl⟩
  clo := fun p hp np => absurd hp np
  nod := List.nodup_cons.mpr ⟨List.not_mem_nil, List.nodup_nil⟩
  good := fun p hp => by rw [List.mem_singleton.mp hp]; exact good_start _ _ _ _
theorem Lv.turn (h : Lv ts1 ts2 m1 m2 found level n) : LvT ts1 ts2 m1 m2 found level n [] 0 0 where
  base := h
  ok := fun p hp => by cases hp
  lev := fun p hp => by cases hp
  clo := fun p hp => by rw [List.take_zero] at hp; cases hp
  cur := fun p _ x hx => by rw [List.take_zero] at hx; cases hx
  nod := by rw [List.append_nil]; exact h.nod
  good := fun p hp => by cases hp
theorem LvT.old (h : LvT ts1 ts2 m1 m2 found level n late j d) {p : Node} {x : Str} (hp : level[j]? = some p) (hx : abW[d]? = some x) (nh : ¬ Half (stpN ts1 ts2 m1 m2 p x)) (had : (stpN ts1 ts2 m1 m2 p x).1 ≠ [] → stpN ts1 ts2 m1 m2 p x ∈ found ++ late) : LvT ts1 ts2 m1 m2 found level n late j (d + 1) :=
  { h with cur := fun q hq y hy => (by
      rw [hp] at hq
      cases hq
      rw [List.take_add_one, hx] at hy
      rcases List.mem_append.mp hy with hy | hy
      · exact h.cur p hp y hy
      · rw [List.mem_singleton.mp (show y ∈ [x] from hy)]
        exact ⟨nh, fun o => had o.1⟩) }
theorem LvT.new (h : LvT ts1 ts2 m1 m2 found level n late j d) {p : Node} {x : Str} (hp : level[j]? = some p) (hx : abW[d]? = some x) (nh : ¬ Half (stpN ts1 ts2 m1 m2 p x)) (ne : (stpN ts1 ts2 m1 m2 p x).1 ≠ []) (no : stpN ts1 ts2 m1 m2 p x ∉ found ++ late) : LvT ts1 ts2 m1 m2 found level n (late ++ [stpN ts1 ts2 m1 m2 p x]) j (d + 1) := by
  have o : okN (stpN ts1 ts2 m1 m2 p x) := by
    rcases not_half nh with o | e
    · exact o
    · exact absurd e.1 ne
  have sub : ∀ q ∈ found ++ late, q ∈ found ++ (late ++ [stpN ts1 ts2 m1 m2 p x]) := fun q hq => by rw [← List.append_assoc]; exact List.mem_append_left _ hq
  exact {
    base := h.base
    ok := fun q hq => by
      rcases List.mem_append.mp hq with hq | hq
      · exact h.ok q hq
      · rw [List.mem_singleton.mp hq]; exact o
    lev := fun q hq => by
      rcases List.mem_append.mp hq with hq | hq
      · exact h.lev q hq
      · obtain ⟨w, w1, w2, w3⟩ := h.base.lev p (List.mem_of_getElem? hp)
        refine ⟨w ++ [x], fun y hy => ?_, by rw [List.length_append, w2]; rfl, by rw [goN_snoc, ← w3]; exact List.mem_singleton.mp hq⟩
        rcases List.mem_append.mp hy with hy | hy
        · exact w1 y hy
        · rw [List.mem_singleton.mp hy]; exact List.mem_of_getElem? hx
    clo := fun q hq y hy => (h.clo q hq y hy).mono sub
    cur := fun q hq y hy => by
      have hq0 := hq
      rw [hp] at hq
      cases hq
      rw [List.take_add_one, hx] at hy
      rcases List.mem_append.mp hy with hy | hy
      · exact (h.cur p hp y hy).mono sub
      · rw [List.mem_singleton.mp (show y ∈ [x] from hy)]
        exact ⟨nh, fun _ => by rw [← List.append_assoc]; exact List.mem_append_right _ (List.mem_singleton.mpr rfl)⟩
    nod := by
      rw [← List.append_assoc]
      exact List.nodup_append.mpr ⟨h.nod, List.nodup_cons.mpr ⟨List.not_mem_nil, List.nodup_nil⟩, fun a ha b hb e => by rw [List.mem_singleton.mp hb] at e; exact no (e ▸ ha)⟩
    good := fun q hq => by
      rcases List.mem_append.mp hq with hq | hq
      · exact h.good q hq
      · rw [List.mem_singleton.mp hq]; exact good_step p x }
theorem LvT.turn (h : LvT ts1 ts2 m1 m2 found level n late j 2) {p : Node} (hp : level[j]? = some p) : LvT ts1 ts2 m1 m2 found level n late (j + 1) 0 :=
  { h with
    clo := fun q hq y hy => by
      rw [List.take_add_one, hp] at hq
      rcases List.mem_append.mp hq with hq | hq
      · exact h.clo q hq y hy
      · rw [List.mem_singleton.mp (show q ∈ [p] from hq)]
        exact h.cur p hp y hy
    cur := fun q _ x hx => by rw [List.take_zero] at hx; cases hx }
/-- a word one longer is closed -/
theorem LvT.step (h : LvT ts1 ts2 m1 m2 found level n late level.length 0) {v : List Str} {x : Str} (ov : OverAB v) (hx : x ∈ abW) (lv : v.length ≤ n) : Cl ts1 ts2 m1 m2 (found ++ late) (goN ts1 ts2 m1 m2 v) x := by
  obtain ⟨c1, c2⟩ := h.base.cov v ov lv
  rcases not_half c1 with o | ⟨e1, e2⟩
  · have m := c2 o
    rcases Classical.em (goN ts1 ts2 m1 m2 v ∈ level) with l | l
    · exact h.clo _ (by rw [List.take_length]; exact l) x hx
    · exact (h.base.clo _ m l x hx).mono fun q hq => List.mem_append_left _ hq
  · obtain ⟨a, b⟩ := dead_stp (ts1 := ts1) (ts2 := ts2) (m1 := m1) (m2 := m2) (x := x) e1 e2
    exact ⟨a, fun o => absurd o b⟩
theorem LvT.next (h : LvT ts1 ts2 m1 m2 found level n late level.length 0) : Lv ts1 ts2 m1 m2 (found ++ late) late (n + 1) where
  ok := fun p hp => (List.mem_append.mp hp).elim (h.base.ok p) (h.ok p)
  sub := fun p hp => List.mem_append_right _ hp
  lev := h.lev
  cov := fun w ow lw => by
    rcases Nat.lt_or_ge w.length (n + 1) with c | c
    · obtain ⟨a, b⟩ := h.base.cov w ow (by omega)
      exact ⟨a, fun o => List.mem_append_left _ (b o)⟩
    · have ne : w ≠ [] := fun z => by rw [z] at c; cases c
      have ew := List.dropLast_concat_getLast ne
      have l : w.dropLast.length ≤ n := by rw [List.length_dropLast]; omega
      rw [← ew] at ow ⊢
      rw [goN_snoc]
      exact h.step (fun y hy => ow y (List.mem_append_left _ hy)) (ow _ (List.mem_append_right _ (List.mem_singleton.mpr rfl))) l
  clo := fun p hp np x hx => by
    rcases List.mem_append.mp hp with hp | hp
    · rcases Classical.em (p ∈ level) with l | l
      · exact h.clo p (by rw [List.take_length]; exact l) x hx
      · exact (h.base.clo p hp l x hx).mono fun q hq => List.mem_append_left _ hq
    · exact absurd hp np
  nod := h.nod
  good := fun p hp => (List.mem_append.mp hp).elim (h.base.good p) (h.good p)
theorem Lv.none (h : Lv ts1 ts2 m1 m2 found [] n) {w : List Str} (ow : OverAB w) : ¬ Diff ts1 ts2 m1 m2 w := by
  rw [← half_diff]
  have all : ∀ w : List Str, OverAB w → ¬ Half (goN ts1 ts2 m1 m2 w) ∧ (okN (goN ts1 ts2 m1 m2 w) → goN ts1 ts2 m1 m2 w ∈ found) := fun w => by
    refine snocI (Q := fun w => OverAB w → ¬ Half (goN ts1 ts2 m1 m2 w) ∧ (okN (goN ts1 ts2 m1 m2 w) → goN ts1 ts2 m1 m2 w ∈ found)) (fun o => h.cov [] o (Nat.zero_le _)) (fun v x ih o => ?_) w
    have hx := o x (List.mem_append_right _ (List.mem_singleton.mpr rfl))
    obtain ⟨c1, c2⟩ := ih fun y hy => o y (List.mem_append_left _ hy)
    rw [goN_snoc]
    rcases not_half c1 with ok | ⟨e1, e2⟩
    · exact h.clo _ (c2 ok) List.not_mem_nil x hx
    · obtain ⟨a, b⟩ := dead_stp (ts1 := ts1) (ts2 := ts2) (m1 := m1) (m2 := m2) (x := x) e1 e2
      exact ⟨a, fun o => absurd o b⟩
  exact (all w ow).1
/-- what the search tells: none, or the least length of a word that just one shows -/
def IsDue (ts1 ts2 : List Stp) (m1 m2 : Int) : Option Nat → Prop
  | .none => ∀ w, OverAB w → ¬ Diff ts1 ts2 m1 m2 w
  | .some k => (∃ w, OverAB w ∧ w.length = k ∧ Diff ts1 ts2 m1 m2 w) ∧ ∀ w, OverAB w → Diff ts1 ts2 m1 m2 w → k ≤ w.length
theorem LvT.hit (h : LvT ts1 ts2 m1 m2 found level n late j d) {p : Node} {x : Str} (hp : level[j]? = some p) (hx : abW[d]? = some x) (hf : Half (stpN ts1 ts2 m1 m2 p x)) : IsDue ts1 ts2 m1 m2 (some (n + 1)) := by
  obtain ⟨w, w1, w2, w3⟩ := h.base.lev p (List.mem_of_getElem? hp)
  refine ⟨⟨w ++ [x], fun y hy => ?_, by rw [List.length_append, w2]; rfl, ?_⟩, fun u ou du => ?_⟩
  · rcases List.mem_append.mp hy with hy | hy
    · exact w1 y hy
    · rw [List.mem_singleton.mp hy]; exact List.mem_of_getElem? hx
  · rw [← half_diff, goN_snoc, ← w3]; exact hf
  · refine Classical.byContradiction fun c => ?_
    exact (h.base.cov u ou (by omega)).1 ((half_diff u).mpr du)
/-- the words of steps are a and b -/
def StpAB (ts : List Stp) : Prop := ∀ t ∈ ts, t.s = Str.ofString "" ∨ t.s ∈ abW
theorem aft_over {ts : List Stp} {m : Int} {ns : List Int} {x : Str} (ab : StpAB ts) (ne : x ≠ Str.ofString "") (h : x ∉ abW) : aft ts m ns x = [] := by
  refine Classical.byContradiction fun c => ?_
  obtain ⟨t, tm, e, _, _⟩ := aft_word ne c
  rcases ab t tm with z | z
  · exact ne (by rw [← e]; exact z)
  · exact h (by rw [← e]; exact z)
theorem seen_over {ts : List Stp} {m : Int} (ab : StpAB ts) : ∀ w : List Str, (∀ x ∈ w, x ≠ Str.ofString "") → seen ts m w ≠ [] → OverAB w := fun w => by
  refine snocI (Q := fun w => (∀ x ∈ w, x ≠ Str.ofString "") → seen ts m w ≠ [] → OverAB w) (fun _ _ x h => by cases h) (fun v x ih ne h => ?_) w
  have pre := seen_pre v [x] h
  have ov := ih (fun y hy => ne y (List.mem_append_left _ hy)) pre
  intro y hy
  rcases List.mem_append.mp hy with hy | hy
  · exact ov y hy
  · rw [List.mem_singleton.mp hy]
    refine Classical.byContradiction fun c => h ?_
    rw [seen_snoc]
    exact aft_over ab (ne x (List.mem_append_right _ (List.mem_singleton.mpr rfl))) c
theorem diff_over (ab1 : StpAB ts1) (ab2 : StpAB ts2) {w : List Str} (ne : ∀ x ∈ w, x ≠ Str.ofString "") (d : Diff ts1 ts2 m1 m2 w) : OverAB w := by
  rcases (diff_some d).1 with h | h
  · exact seen_over ab1 w ne h
  · exact seen_over ab2 w ne h
theorem over_ne {w : List Str} (o : OverAB w) : ∀ x ∈ w, x ≠ Str.ofString "" := fun x hx => by
  have m := o x hx
  unfold abW at m
  simp only [List.mem_cons, List.not_mem_nil, or_false] at m
  rcases m with rfl | rfl <;> decide +kernel
end
end K1
end
section
/-! The law's own search by levels. -/
namespace K1
open PySem L2
open MX (Rise Up)
/-! ### nodes as data -/
def dN (p : Node) : PyData := .tuple [.tuple (p.1.map .int), .tuple (p.2.map .int)]
theorem eqv_tints (a b : List Int) : PyData.eqv (.tuple (a.map .int)) (.tuple (b.map .int)) = decide (a = b) := eqvAll_map PyData.int eqv_int a b
theorem eqv_tnil (a : List Int) : PyData.eqv (.tuple (a.map .int)) (.tuple []) = decide (a = []) := eqv_tints a []
theorem eqv_N (p q : Node) : PyData.eqv (dN p) (dN q) = decide (p = q) := by
  obtain ⟨a, b⟩ := p
  obtain ⟨c, d⟩ := q
  have e : PyData.eqv (dN (a, b)) (dN (c, d)) = (PyData.eqv (.tuple (a.map .int)) (.tuple (c.map .int)) && (PyData.eqv (.tuple (b.map .int)) (.tuple (d.map .int)) && true)) := rfl
  rw [e, eqv_tints, eqv_tints, Bool.and_true, Bool.eq_iff_iff, Bool.and_eq_true, decide_eq_true_iff, decide_eq_true_iff, decide_eq_true_iff, Prod.mk.injEq]
theorem dp_N {K : PySem.W.Frag} {H : Hp} {t : Addr} {p : Node} (h : PairOf H t p) : Dp K H (.ref t) (dN p) := by
  obtain ⟨l, k, a, b, c⟩ := h
  exact .tup (SqT.of a) (.cons (.tup (SqT.of b) (dpI _)) (.cons (.tup (SqT.of c) (dpI _)) .nil))
theorem lay_N (p : Node) : (dN p).canLay0 = true ∧ (dN p).depth ≤ 2 := by
  obtain ⟨a1, a2⟩ := layI p.1
  obtain ⟨b1, b2⟩ := layI p.2
  unfold dN
  simp only [PyData.canLay0, PyData.canLayAll0, PyData.depth, PyData.depthAll, a1, a2, b1, b2]
  decide
theorem lay_Ns : ∀ ps : List Node, PyData.canLayAll0 (ps.map dN) = true ∧ PyData.depthAll (ps.map dN) ≤ 2
  | [] => ⟨rfl, Nat.zero_le _⟩
  | p :: ps => by
    obtain ⟨a, b⟩ := lay_N p
    obtain ⟨c, d⟩ := lay_Ns ps
    rw [List.map_cons]
    simp only [PyData.canLayAll0, PyData.depthAll, a, c]
    exact ⟨rfl, by omega⟩
theorem shape_of {d : PyData} (a : d.canLay0 = true) (b : d.depth ≤ 4) : SeqAt.shaped d = true := by
  unfold SeqAt.shaped
  rw [a, Bool.true_and, decide_eq_true_iff]
  omega
theorem shape_N (p : Node) : SeqAt.shaped (dN p) = true := shape_of (lay_N p).1 (Nat.le_trans (lay_N p).2 (by decide))
theorem shape_Ns (ps : List Node) : SeqAt.shaped (.list (ps.map dN)) = true := shape_of (lay_Ns ps).1 (by
  show PyData.depthAll _ + 1 ≤ 4
  have := (lay_Ns ps).2
  omega)
theorem dp_Nall {K : PySem.W.Frag} {H : Hp} : ∀ (as : List Addr) (ps : List Node), as.length = ps.length → (∀ (i : Nat) (t : Addr) (p : Node), as[i]? = some t → ps[i]? = some p → PairOf H t p) → DpAll K H (as.map V.ref) (ps.map dN)
  | [], [], _, _ => .nil
  | a :: as, p :: ps, e, h => .cons (dp_N (h 0 a p rfl rfl)) (dp_Nall as ps (Nat.succ.inj e) fun i t q x y => h (i + 1) t q x y)
  | [], p :: ps, e, _ => by cases e
  | a :: as, [], e, _ => by cases e
theorem dp_Ns {K : PySem.W.Frag} {H : Hp} {a : Addr} {ps : List Node} (h : PairsAt H a ps) : Dp K H (.ref a) (.list (ps.map dN)) := by
  obtain ⟨as, h1, h2, h3⟩ := h
  exact .lst (SqL.of h1) (dp_Nall as ps h2 h3)
theorem any_N (ps : List Node) (p : Node) : ((ps.map dN).any fun z => PyData.eqv z (dN p)) = decide (p ∈ ps) := by
  rw [Bool.eq_iff_iff, decide_eq_true_iff, List.any_map, List.any_eq_true]
  constructor
  · rintro ⟨q, hq, e⟩
    have z : PyData.eqv (dN q) (dN p) = true := e
    rw [eqv_N, decide_eq_true_iff] at z
    rw [← z]; exact hq
  · intro h
    exact ⟨p, h, by show PyData.eqv (dN p) (dN p) = true; rw [eqv_N, decide_eq_true_iff]⟩
/-- what a level's loop holds -/
structure FS (H0 H : Hp) (F LA : Addr) (fs late : List Node) : Prop where
  same : Same H0 H
  fp : PairsAt H F (fs ++ late)
  lp : PairsAt H LA late
  ne : LA ≠ F
  nF : H0 F = none
  nL : H0 LA = none
theorem FS.keep {H0 H H' : Hp} {F LA : Addr} {fs late : List Node} (S : FS H0 H F LA fs late) (e : Same H H') : FS H0 H' F LA fs late := ⟨S.same.trans e, S.fp.same e, S.lp.same e, S.ne, S.nF, S.nL⟩
theorem pairs_app {H H' : Hp} {F t : Addr} {as : List Addr} {ps : List Node} {q : Node} (a2 : as.length = ps.length) (a3 : ∀ (i : Nat) (t : Addr) (p : Node), as[i]? = some t → ps[i]? = some p → PairOf H t p) (po : PairOf H t q) (tu : TupSame H H') (hF : H' F = some (.lst (as.map V.ref ++ [.ref t]))) : PairsAt H' F (ps ++ [q]) :=
  ⟨as ++ [t], by rw [hF, List.map_append]; rfl, by rw [List.length_append, List.length_append, a2]; rfl, get_snoc (p := fun a b => PairOf H' a b) a2 (fun i a b x y => (a3 i a b x y).tup tu) (po.tup tu)⟩
theorem FS.add {H0 H : Hp} {F LA t : Addr} {fs late : List Node} {q : Node} (S : FS H0 H F LA fs late) (po : PairOf H t q) : ∃ xs ys, H F = some (.lst xs) ∧ xs.length = (fs ++ late).length ∧ (upd H F (.lst (xs ++ [.ref t]))) LA = some (.lst ys) ∧ ys.length = late.length ∧
    FS H0 (upd (upd H F (.lst (xs ++ [.ref t]))) LA (.lst (ys ++ [.ref t]))) F LA fs (late ++ [q]) ∧ TupSame H (upd (upd H F (.lst (xs ++ [.ref t]))) LA (.lst (ys ++ [.ref t]))) ∧ ∀ b o, b ≠ F → b ≠ LA → H b = some o → (upd (upd H F (.lst (xs ++ [.ref t]))) LA (.lst (ys ++ [.ref t]))) b = some o := by
  obtain ⟨as, a1, a2, a3⟩ := S.fp
  obtain ⟨bs, b1, b2, b3⟩ := S.lp
  have hL : (upd H F (.lst (as.map V.ref ++ [.ref t]))) LA = some (.lst (bs.map V.ref)) := by rw [upd_ne S.ne]; exact b1
  have tu : TupSame H (upd (upd H F (.lst (as.map V.ref ++ [.ref t]))) LA (.lst (bs.map V.ref ++ [.ref t]))) := (TupSame.upd a1 fun xs z => by cases z).trans (TupSame.upd hL fun xs z => by cases z)
  refine ⟨_, _, a1, by rw [List.length_map, a2], hL, by rw [List.length_map, b2], ⟨fun b o z => ?_, ?_, ?_, S.ne, S.nF, S.nL⟩, tu, fun b o n1 n2 z => by rw [upd_ne n2, upd_ne n1]; exact z⟩
  · rw [upd_ne (ne_of_none z S.nL), upd_ne (ne_of_none z S.nF)]; exact S.same _ _ z
  · rw [← List.append_assoc]
    exact pairs_app a2 a3 po tu (by rw [upd_ne S.ne.symm]; exact upd_same)
  · exact pairs_app b2 b3 po tu upd_same
def lfM (found level : List Node) : Nat := 2 * (70000 - found.length) + (if level = [] then 0 else 1)
theorem lfM_lt {found late level : List Node} (c : ¬ level = []) (l : (found ++ late).length ≤ 65536) : lfM (found ++ late) late < lfM found level := by
  unfold lfM
  rw [if_neg c]
  rw [List.length_append] at l ⊢
  cases late with
  | nil => rw [if_pos rfl, List.length_nil]; omega
  | cons x xs => rw [if_neg (fun z => nomatch z), List.length_cons] at *; omega
theorem eqv_lnil (ps : List Node) : PyData.eqv (.list (ps.map dN)) (.list []) = decide (ps = []) := by cases ps <;> rfl
def dueV : Option Nat → V
  | .none => .non
  | .some n => .int (n : Nat)
/-- a row of a machine's steps -/
structure RowAt (H : Hp) (sA : Addr) (m : Int) (sts : List Stp) : Prop where
  row : ∃ xs : List V, H sA = some (.tup xs) ∧ Row H xs sts
  ok : ∀ s ∈ sts, OkS m s
  few : sts.length < 64
  low : 1 ≤ m
  high : m ≤ 8
theorem RowAt.same {H H' : Hp} {sA : Addr} {m : Int} {sts : List Stp} (r : RowAt H sA m sts) (e : Same H H') : RowAt H' sA m sts := by
  obtain ⟨⟨xs, a, b⟩, c, d, f, g⟩ := r
  exact ⟨⟨xs, e _ _ a, b.same e⟩, c, d, f, g⟩
def spFirst : Sp := fun vs H Q _ => ∃ (s1 s2 fr : Addr) (m1 m2 : Int) (st1 st2 : List Stp) (ks : List Str), vs = [.ref s1, .ref s2, .ref fr] ∧ RowAt H s1 m1 st1 ∧ RowAt H s2 m2 st2 ∧ H fr = some (.tup (ks.map V.str)) ∧
  ∀ (H' : Hp) (due : Option Nat), Same H H' → IsDue (st1.filter (isOpen ks)) (st2.filter (isOpen ks)) m1 m2 due → Q (dueV due) H'
theorem room65 {k : Nat} {A : Around} (r : Room k A) : A.units + 65 < cLine := by have := r.un; omega
structure TxtLF (mg : Str → Option Value) : Prop where
  list : mg "list" = none
section
variable {P : Program} {w : World} {K : PySem.W.Frag} {mg : Str → Option Value} {base : Heap}
abbrev sLF : Stmt := top 35
abbrev nLF : List Str := ["one", "other", "free", "start", "found", "level", "size", "late", "here", "there", "word", "pair"]
theorem scLF : FnScope nLF ["one", "other", "free"] (defScope sLF) := ⟨rfl, rfl, rfl, by decide +kernel, rfl, by decide +kernel, by decide +kernel⟩
set_option maxHeartbeats 1000000 in
theorem ok_lf {f fQ fB : Addr} {fd fdQ fdB : FuncData} (F : Fun K "_law_first" "_law_first" sLF f fd) (T : TxtLF mg)
    (A_law_quiet : At1 K mg "_law_quiet" fQ) (G_law_quiet : FnOk P w K mg base CX0 1 fQ fdQ ["steps", "free", "states"] spQuiet) (b_law_quiet : Binds K fdQ ["steps", "free", "states"] [])
    (A_law_behind : At1 K mg "_law_behind" fB) (G_law_behind : FnOk P w K mg base CX0 2 fB fdB ["steps", "free", "states", "word"] spLBe) (b_law_behind : Binds K fdB ["steps", "free", "states", "word"] []) :
    FnOk P w K mg base CX0 3 f fd ["one", "other", "free"] spFirst := by
  refine F.ok scLF (fun vs H Q E h => ?_) (fun cdv A outer s H vs Q E hr h => ?_)
  · obtain ⟨s1, s2, fr, m1, m2, st1, st2, ks, rfl, _⟩ := h
    rfl
  · obtain ⟨s1, s2, fr, m1, m2, st1, st2, ks, rfl, R1, R2, hf, k⟩ := h
    have nd := scLF.nd
    have hu := hr.units
    have hu65 := room65 hr
    have hr_law_quiet : Room 1 _ := hr.mono (by decide)
    have hr_law_behind : Room 2 _ := hr
    refine ⟨_, (pss_cons (ps_set (i := 3) nd rfl (Or.inl rfl) (pe_tup (pa_cons (pe_call G_law_quiet hr_law_quiet (by rfl) A_law_quiet.g A_law_quiet.k b_law_quiet .nil pass0 (pa_cons (pv 0) (pa_cons (pv 2) (pa_cons (pe_lst (pa_cons pe_int pa_nil)) pa_nil)))) (pa_cons (pe_call G_law_quiet hr_law_quiet (by rfl) A_law_quiet.g A_law_quiet.k b_law_quiet .nil pass0 (pa_cons (pv 1) (pa_cons (pv 2) (pa_cons (pe_lst (pa_cons pe_int pa_nil)) pa_nil)))) pa_nil))))
      (pss_cons (ps_par3 (i := 4) (j := 5) (l := 6) (by rfl) nd rfl rfl rfl (by decide) (by decide) (by decide) rfl rfl rfl (pa_cons (pe_lst (pa_cons (pv 3) pa_nil)) (pa_cons (pe_lst (pa_cons (pv 3) pa_nil)) (pa_cons pe_int pa_nil))) (by rfl))
      (pss_cons (ps_while PassesOwn.never (pt_cmpR (op_neD hu) (pv 5) (pe_lst pa_nil) (nomark _))
        (pss_cons (ps_par (i := 7) (j := 6) (by rfl) nd rfl rfl (by decide) rfl rfl (pa_cons (pe_lst pa_nil) (pa_cons (pe_op op_add (pv 6) pe_int) pa_nil)) (by rfl))
        (pss_cons (ps_for PassesOwn.never rfl (pi_list (pe_callTy call_list_of (by rfl) T.list (by decide +kernel) (pa_cons (pv 5) pa_nil))) (pg_tup rfl (pgs_cons (pg_name (i := 8) nd rfl (Or.inl rfl)) (pgs_cons (pg_name (i := 9) nd rfl (Or.inl rfl)) pgs_nil)))
          (pss_one (ps_for PassesOwn.never rfl (pi_tup (pe_tup (pa_cons pe_str (pa_cons pe_str pa_nil)))) (pg_name (i := 10) nd rfl (Or.inl rfl))
            (pss_cons (ps_set (i := 11) nd rfl (Or.inl rfl) (pe_tup (pa_cons (pe_call G_law_behind hr_law_behind (by rfl) A_law_behind.g A_law_behind.k b_law_behind .nil pass0 (pa_cons (pv 0) (pa_cons (pv 2) (pa_cons (pv 8) (pa_cons (pv 10) pa_nil))))) (pa_cons (pe_call G_law_behind hr_law_behind (by rfl) A_law_behind.g A_law_behind.k b_law_behind .nil pass0 (pa_cons (pv 1) (pa_cons (pv 2) (pa_cons (pv 9) (pa_cons (pv 10) pa_nil))))) pa_nil))))
            (pss_cons (ps_if (pt_cmpR op_ne (pe_cmpR (op_eqD hu) (pe_ix ix_tup (pv 11) pe_int (fun _ _ => rfl)) (pe_tup pa_nil) (nomark _)) (pe_cmpR (op_eqD hu) (pe_ix ix_tup (pv 11) pe_int (fun _ _ => rfl)) (pe_tup pa_nil) (nomark _)) (nomark _))
              (pss_one (ps_ret (pv 6)))
              pss_nil)
            (pss_one (ps_if (PW.pt (pw_and (pt_cmpR (op_neD hu) (pe_ix ix_tup (pv 11) pe_int (fun _ _ => rfl)) (pe_tup pa_nil) (nomark _)) (pw_and1 (pt_cmpR (op_notInD hu65) (pv 11) (pv 4) rfl))))
              (pss_cons (ps_expr (pe_bm PySem.F.plainAttrs_list PySem.F.slot_list_append PySem.F.type_list_append mt_append (pv 4) (pa_cons (pv 11) pa_nil)))
              (pss_one (ps_expr (pe_bm PySem.F.plainAttrs_list PySem.F.slot_list_append PySem.F.type_list_append mt_append (pv 7) (pa_cons (pv 11) pa_nil)))))
              pss_nil)))))))
        (pss_one (ps_set (i := 5) nd rfl (Or.inl rfl) (pv 7))))))
      (pss_one (ps_ret pe_non))))), ?_⟩
    obtain ⟨⟨xs1, hs1, row1⟩, ok1, few1, low1, high1⟩ := id R1
    obtain ⟨⟨xs2, hs2, row2⟩, ok2, few2, low2, high2⟩ := id R2
    have zero1 : InR m1 [0] := fun x hx => by rw [List.mem_singleton.mp hx]; omega
    have zero2 : InR m2 [0] := fun x hx => by rw [List.mem_singleton.mp hx]; omega
    refine into ⟨_, rfl, _, rfl, by show 1 ≤ sizeLine; decide, fun z1 nz1 => ⟨s1, fr, z1, xs1, st1, ks, m1, [0], rfl, same_new nz1 _ _ hs1, row1.same (same_new nz1), ok1, few1, by omega, same_new nz1 _ _ hf, upd_same, by decide, zero1, fun H1 t1 e1 ht1 => ?_⟩⟩
    have e01 : Same H H1 := (same_new nz1).trans e1
    refine ⟨_, rfl, _, rfl, by show 1 ≤ sizeLine; decide, fun z2 nz2 => ⟨s2, fr, z2, xs2, st2, ks, m2, [0], rfl, same_new nz2 _ _ (e01 _ _ hs2), row2.same (e01.trans (same_new nz2)), ok2, few2, by omega, same_new nz2 _ _ (e01 _ _ hf), upd_same, by decide, zero2, fun H2 t2 e2 ht2 => ⟨by show 2 ≤ sizeLine; decide, fun B nB => ?_⟩⟩⟩
    have e12 : Same H1 H2 := (same_new nz2).trans e2
    have e23 : Same H2 (upd H2 B (.tup [.ref t1, .ref t2])) := same_new nB
    generalize hts1 : st1.filter (isOpen ks) = ts1 at *
    generalize hts2 : st2.filter (isOpen ks) = ts2 at *
    have po3 : PairOf (upd H2 B (.tup [.ref t1, .ref t2])) B (startN ts1 ts2 m1 m2) := ⟨t1, t2, upd_same, e23 _ _ (e12 _ _ ht1), e23 _ _ ht2⟩
    have e03 := (e01.trans e12).trans e23
    generalize upd H2 B (.tup [.ref t1, .ref t2]) = H3 at po3 e03
    clear e23 e12 e01 e1 e2 ht1 ht2
    refine into ⟨_, rfl, by show 1 ≤ sizeLine; decide, fun F nF => ⟨_, rfl, by show 1 ≤ sizeLine; decide, fun L nL => ?_⟩⟩
    have nFH : H F = none := e03.free nF
    have g1 : Same H3 (upd H3 F (.lst [.ref B])) := same_new nF
    have nLH : H3 L = none := g1.free nL
    have g2 : Same (upd H3 F (.lst [.ref B])) (upd (upd H3 F (.lst [.ref B])) L (.lst [.ref B])) := same_new nL
    have one : ∀ {H' : Hp} {X : Addr}, H' X = some (.lst [.ref B]) → PairOf H' B (startN ts1 ts2 m1 m2) → PairsAt H' X [startN ts1 ts2 m1 m2] := fun {H' X} h po => ⟨[B], h, rfl, fun i t p x y => by
      cases i with
      | zero => cases x; cases y; exact po
      | succ i => simp at x⟩
    have po4 := (po3.same g1).same g2
    have hF4 := g2 _ _ (upd_same (H := H3) (a := F) (o := .lst [.ref B]))
    have hL4 : (upd (upd H3 F (.lst [.ref B])) L (.lst [.ref B])) L = some (.lst [.ref B]) := upd_same
    have e04 := e03.trans (g1.trans g2)
    generalize upd (upd H3 F (.lst [.ref B])) L (.lst [.ref B]) = H4 at po4 hF4 hL4 e04
    clear g1 g2 nL nLH
    refine ⟨_, _, _, rfl, ?_⟩
    refine into ⟨fun mm σ H' => ∃ (L : Addr) (found level : List Node) (n : Nat) (v7 v8 v9 v10 v11 : Option V), σ = [some (.ref s1), some (.ref s2), some (.ref fr), some (.ref B), some (.ref F), some (.ref L), some (.int (n : Int)), v7, v8, v9, v10, v11] ∧ Same H H' ∧ PairsAt H' F found ∧ PairsAt H' L level ∧ Lv ts1 ts2 m1 m2 found level n ∧ mm = lfM found level,
      ⟨_, L, _, _, 0, none, none, none, none, none, rfl, e04, one hF4 po4, one hL4 po4, .start low1 low2, rfl⟩, ?_⟩
    rintro mm σ H5 ⟨L, found, level, n, v7, v8, v9, v10, v11, rfl, e5, pF, pL, J, rfl⟩
    refine ⟨_, rfl, Nat.zero_le _, fun q nq => ⟨.list (level.map dN), .list [], dp_Ns (pL.same (same_new nq)), .lst (SqL.of upd_same) .nil, shape_Ns _, by decide +kernel, _, rfl, ?_⟩⟩
    have e6 : Same H5 (upd H5 q (.lst [])) := same_new nq
    rw [eqv_lnil]
    have pF6 := pF.same e6
    have pL6 := pL.same e6
    have e06 := e5.trans e6
    generalize upd H5 q (.lst []) = H6 at pF6 pL6 e06
    clear pF pL e6 nq e5
    by_cases cl : level = []
    · refine iteF' (by simp [cl]) ?_
      subst cl
      exact k H6 none e06 fun w ow => J.none ow
    · refine iteT' (by simp [cl]) ⟨_, fun σ' H' z => z, ?_⟩
      refine into ⟨Nat.zero_le _, fun LA nLA => ⟨_, rfl, _, _, rfl, rfl, ⟨_, _, rfl, ?_⟩⟩⟩
      have e7 : Same H6 (upd H6 LA (.lst [])) := same_new nLA
      have S7 : FS H (upd H6 LA (.lst [])) F LA found [] := ⟨e06.trans e7, by rw [List.append_nil]; exact pF6.same e7, ⟨[], upd_same, rfl, fun i t p x => by simp at x⟩, (fun z => by obtain ⟨as, a1, _⟩ := pF6; rw [z, a1] at nLA; cases nLA), nFH, e06.free nLA⟩
      have pL7 := pL6.same e7
      generalize upd H6 LA (.lst []) = H7 at S7 pL7
      clear e7 pL6 pF6 nLA e06
      obtain ⟨as, l1, l2, l3⟩ := pL7
      refine into ⟨_, rfl, L, _, rfl, .inl (SqL.of l1), fun CC nCC => ?_⟩
      have e8 : Same H7 (upd H7 CC (.lst (as.map V.ref))) := same_new nCC
      have hC8 : (upd H7 CC (.lst (as.map V.ref))) CC = some (.lst (as.map V.ref)) := upd_same
      have nCF : CC ≠ F := fun z => by obtain ⟨bs, b1, _⟩ := S7.fp; rw [z, b1] at nCC; cases nCC
      have nCL : CC ≠ LA := fun z => by obtain ⟨bs, b1, _⟩ := S7.lp; rw [z, b1] at nCC; cases nCC
      have S8 := S7.keep e8
      have l8 : ∀ (i : Nat) (t : Addr) (p : Node), as[i]? = some t → level[i]? = some p → PairOf (upd H7 CC (.lst (as.map V.ref))) t p := fun i t p x y => (l3 i t p x y).same e8
      generalize upd H7 CC (.lst (as.map V.ref)) = H8 at S8 l8 hC8
      clear S7 nCC e8 l3 l1
      refine ⟨CC, rfl, ⟨_, SqL.of hC8⟩, ?_⟩
      refine for_list (xs := as.map V.ref) (fun j σ H' => ∃ (late : List Node) (v8 v9 v10 v11 : Option V), σ = [some (.ref s1), some (.ref s2), some (.ref fr), some (.ref B), some (.ref F), some (.ref L), some (.int ((n : Int) + 1)), some (.ref LA), v8, v9, v10, v11] ∧ FS H H' F LA found late ∧ LvT ts1 ts2 m1 m2 found level n late j 0 ∧ TupSame H8 H' ∧ H' CC = some (.lst (as.map V.ref)))
        ⟨[], _, _, _, _, rfl, S8, J.turn, fun b xs z => z, hC8⟩ (fun j σ H' _ ⟨_, _, _, _, _, _, _, _, _, z⟩ => SqL.of z) ?_ ?_
      · rintro j x σ H9 hx ⟨late, v8, v9, v10, v11, rfl, S9, T9, tu9, hC9⟩
        obtain ⟨t, ht, rfl⟩ : ∃ t, as[j]? = some t ∧ x = V.ref t := by
          rw [List.getElem?_map] at hx
          cases e : as[j]? with
          | none => rw [e] at hx; cases hx
          | some g => rw [e] at hx; exact ⟨g, rfl, (Option.some.inj hx).symm⟩
        have jl : j < level.length := by rw [← l2]; exact (List.getElem?_eq_some_iff.mp ht).1
        obtain ⟨p, hp⟩ : ∃ p, level[j]? = some p := ⟨_, List.getElem?_eq_getElem jl⟩
        obtain ⟨l, h, q1, q2, q3⟩ := (l8 j t p ht hp).tup tu9
        have gp := J.good p (J.sub p (List.mem_of_getElem? hp))
        refine ⟨t, _, rfl, SqT.of q1, rfl, _, _, rfl, _, _, rfl, rfl, ?_⟩
        refine ⟨by show 2 ≤ sizeLine; decide, fun W nW => ?_⟩
        have e10 : Same H9 (upd H9 W (.tup [.str (Str.ofString "a"), .str (Str.ofString "b")])) := same_new nW
        have hW : (upd H9 W (.tup [.str (Str.ofString "a"), .str (Str.ofString "b")])) W = some (.tup [.str (Str.ofString "a"), .str (Str.ofString "b")]) := upd_same
        have S10 := S9.keep e10
        have hC10 := e10 _ _ hC9
        have q2' := e10 _ _ q2
        have q3' := e10 _ _ q3
        have tu10 := tu9.trans (.of e10)
        generalize upd H9 W (.tup [.str (Str.ofString "a"), .str (Str.ofString "b")]) = H10 at hW S10 hC10 q2' q3' tu10
        clear e10 nW S9 hC9 q1 q2 q3 tu9
        refine ⟨W, rfl, ⟨_, SqT.of hW⟩, ?_⟩
        refine for_tup (xs := abW.map V.str) (fun d σ H' => ∃ (late : List Node) (v10 v11 : Option V), σ = [some (.ref s1), some (.ref s2), some (.ref fr), some (.ref B), some (.ref F), some (.ref L), some (.int ((n : Int) + 1)), some (.ref LA), some (.ref l), some (.ref h), v10, v11] ∧ FS H H' F LA found late ∧ LvT ts1 ts2 m1 m2 found level n late j d ∧ TupSame H10 H' ∧ H' CC = some (.lst (as.map V.ref)))
          ⟨late, _, _, rfl, S10, T9, fun b xs z => z, hC10⟩ (fun d σ H' _ ⟨_, _, _, _, _, _, tu, _⟩ => SqT.of (tu _ _ hW)) ?_ ?_
        · rintro d x σ H11 hx ⟨late, v10, v11, rfl, S11, T11, tu11, hC11⟩
          obtain ⟨x, hd, rfl⟩ := str_at hx
          refine into ?_
          have eS := S11.same
          have q2a := tu11 _ _ q2'
          have q3a := tu11 _ _ q3'
          refine ⟨_, rfl, _, rfl, _, rfl, _, rfl, s1, fr, l, xs1, st1, ks, m1, p.1, x, rfl, eS _ _ hs1, row1.same eS, ok1, few1, by omega, eS _ _ hf, q2a, gp.r1, fun H12 t1 e12 ht1 => ?_⟩
          have eS12 := eS.trans e12
          refine ⟨_, rfl, _, rfl, _, rfl, _, rfl, s2, fr, h, xs2, st2, ks, m2, p.2, x, rfl, eS12 _ _ hs2, row2.same eS12, ok2, few2, by omega, eS12 _ _ hf, e12 _ _ q3a, gp.r2, fun H13 t2 e13 ht2 => ⟨by show 2 ≤ sizeLine; decide, fun PP nPP => ?_⟩⟩
          rw [hts1] at ht1
          rw [hts2] at ht2
          have e14 : Same H13 (upd H13 PP (.tup [.ref t1, .ref t2])) := same_new nPP
          have hPP : (upd H13 PP (.tup [.ref t1, .ref t2])) PP = some (.tup [.ref t1, .ref t2]) := upd_same
          have g1 := e14 _ _ (e13 _ _ ht1)
          have g2 := e14 _ _ ht2
          have e11 : Same H11 (upd H13 PP (.tup [.ref t1, .ref t2])) := (e12.trans e13).trans e14
          generalize upd H13 PP (.tup [.ref t1, .ref t2]) = H14 at hPP g1 g2 e11
          clear e14 nPP ht1 ht2 e13 eS12 e12
          have po : PairOf H14 PP (stpN ts1 ts2 m1 m2 p x) := ⟨t1, t2, hPP, g1, g2⟩
          have r1 : aft ts1 m1 p.1 x = (stpN ts1 ts2 m1 m2 p x).1 := rfl
          have r2 : aft ts2 m2 p.2 x = (stpN ts1 ts2 m1 m2 p x).2 := rfl
          rw [r1] at g1
          rw [r2] at g2
          refine into ⟨_, rfl, PP, _, _, .ref t1, rfl, rfl, SqT.of hPP, atI_nat (j := 0) rfl, Nat.zero_le _, fun u1 nu1 => ?_⟩
          have f1 : Same H14 (upd H14 u1 (.tup [])) := same_new nu1
          refine ⟨.tuple ((stpN ts1 ts2 m1 m2 p x).1.map .int), .tuple [], .tup (SqT.of (f1 _ _ g1)) (dpI _), .tup (SqT.of upd_same) .nil, shapeTI _, by decide +kernel, ?_⟩
          have po1 := po.same f1
          have hPP1 := f1 _ _ hPP
          have g2a := f1 _ _ g2
          have e11a := e11.trans f1
          generalize upd H14 u1 (.tup []) = H15 at po1 hPP1 g2a e11a
          clear nu1 f1
          refine ⟨_, rfl, PP, _, _, .ref t2, rfl, rfl, SqT.of hPP1, atI_nat (j := 1) rfl, Nat.zero_le _, fun u2 nu2 => ?_⟩
          have f2 : Same H15 (upd H15 u2 (.tup [])) := same_new nu2
          refine ⟨.tuple ((stpN ts1 ts2 m1 m2 p x).2.map .int), .tuple [], .tup (SqT.of (f2 _ _ g2a)) (dpI _), .tup (SqT.of upd_same) .nil, shapeTI _, by decide +kernel, rfl, _, rfl, ?_⟩
          rw [eqv_tnil, eqv_tnil]
          have po2 := po1.same f2
          have hPP2 := f2 _ _ hPP1
          have e11b := e11a.trans f2
          generalize upd H15 u2 (.tup []) = H16 at po2 hPP2 e11b
          clear nu2 f2 po1 hPP1 g2a e11a po hPP g1 g2 e11
          obtain ⟨t1', t2', hPP3, g1, g2⟩ := id po2
          have eqt : t1' = t1 := by rw [hPP2] at hPP3; cases hPP3; rfl
          subst eqt
          by_cases hf' : Half (stpN ts1 ts2 m1 m2 p x)
          · refine iteT' (by
              unfold Half at hf'
              simpa [decide_eq_decide] using hf') ?_
            exact ⟨_, rfl, k H16 (some (n + 1)) (S11.same.trans e11b) (T11.hit hp hd hf')⟩
          · refine iteF' (by
              unfold Half at hf'
              simpa [decide_eq_decide] using hf') ?_
            unfold tNext
            dsimp only
            refine ⟨_, rfl, PP, _, _, .ref t1', rfl, rfl, SqT.of hPP2, atI_nat (j := 0) rfl, Nat.zero_le _, fun u3 nu3 => ?_⟩
            have f3 : Same H16 (upd H16 u3 (.tup [])) := same_new nu3
            refine ⟨.tuple ((stpN ts1 ts2 m1 m2 p x).1.map .int), .tuple [], .tup (SqT.of (f3 _ _ g1)) (dpI _), .tup (SqT.of upd_same) .nil, shapeTI _, by decide +kernel, _, rfl, ?_⟩
            rw [eqv_tnil]
            have po4' := po2.same f3
            have e11c := e11b.trans f3
            generalize upd H16 u3 (.tup []) = H17 at po4' e11c
            clear nu3 f3
            have S17 := S11.keep e11c
            have tu17 := tu11.trans (.of e11c)
            have hC17 := e11c _ _ hC11
            by_cases c1 : (stpN ts1 ts2 m1 m2 p x).1 = []
            · refine iteF' (by simp [c1]) (iteF ?_)
              exact ⟨late, _, _, rfl, S17, T11.old hp hd hf' (fun z => absurd c1 z), tu17, hC17⟩
            · refine iteT' (by simp [c1]) ⟨_, rfl, _, rfl, dN (stpN ts1 ts2 m1 m2 p x), (found ++ late).map dN, dp_N po4', dp_Ns S17.fp, shape_N _, shape_Ns _, _, rfl, ?_⟩
              rw [any_N]
              by_cases c2 : stpN ts1 ts2 m1 m2 p x ∈ found ++ late
              · refine iteF' (by rw [decide_eq_true c2]; decide) ?_
                exact ⟨late, _, _, rfl, S17, T11.old hp hd hf' (fun z => c2), tu17, hC17⟩
              · refine iteT' (by rw [decide_eq_false c2]; rfl) ?_
                have T18 := T11.new hp hd hf' c1 c2
                have fewp : (found ++ late).length ≤ 65536 := nodes_few high1 high2 T11.nod fun q hq => (List.mem_append.mp hq).elim (J.good q) (T11.good q)
                obtain ⟨xs, ys, x1, x2, x3, x4, S18, tu18, keep18⟩ := S17.add po4'
                refine into ⟨_, rfl, .inl ⟨rfl, _, SqL.of x1⟩, _, rfl, F, _, _, rfl, rfl, x1, by rw [x2, sizeLine_eq]; omega, ?_⟩
                refine ⟨_, rfl, .inl ⟨rfl, _, SqL.of x3⟩, _, rfl, LA, _, _, rfl, rfl, x3, by rw [List.length_append] at fewp; rw [x4, sizeLine_eq]; omega, ?_⟩
                exact ⟨late ++ [stpN ts1 ts2 m1 m2 p x], _, _, rfl, S18, T18, tu17.trans tu18, keep18 _ _ nCF nCL hC17⟩
        · rintro σ H11 ⟨late, v10, v11, rfl, S11, T11, tu11, hC11⟩
          exact ⟨late, _, _, _, _, rfl, S11, T11.turn hp, tu10.trans tu11, hC11⟩
      · rintro σ H9 ⟨late, v8, v9, v10, v11, rfl, S9, T9, tu9, hC9⟩
        rw [List.length_map, l2] at T9
        have fewp := nodes_few high1 high2 T9.nod T9.next.good
        exact into ⟨_, rfl, _, lfM_lt cl fewp, LA, found ++ late, late, n + 1, _, _, _, _, _, rfl, S9.same, S9.fp, S9.lp, T9.next, rfl⟩
end
end K1
end
section
/-! What evidence shows. -/
namespace K1
open PySem L2
section
variable {ts1 ts2 : List Stp} {m1 m2 : Int}
theorem un_trans {ts : List Stp} {a b c : Int} (h : Un ts a b) (k : Un ts b c) : Un ts a c := by
  induction k with
  | refl => exact h
  | step _ tm te ih => exact .step ih tm te
theorem spr_spr {ts : List Stp} {m : Int} {ns : List Int} : spr ts m (spr ts m ns) = spr ts m ns := asc_eq spr_asc spr_asc fun x => by
  constructor
  · intro h
    obtain ⟨r, y, hy, u⟩ := mem_spr.mp h
    obtain ⟨_, z, hz, v⟩ := mem_spr.mp hy
    exact mem_spr.mpr ⟨r, z, hz, un_trans v u⟩
  · intro h
    exact mem_spr.mpr ⟨(mem_spr.mp h).1, x, h, .refl⟩
theorem spr_seen {ts : List Stp} {m : Int} (w : List Str) : spr ts m (seen ts m w) = seen ts m w := by
  refine snocI (Q := fun w => spr ts m (seen ts m w) = seen ts m w) spr_spr (fun v x _ => ?_) w
  rw [seen_snoc]
  unfold aft
  exact spr_spr
theorem que_good {ps : List Node} {ws : List (List Str)} {n : Nat} (q : BF.Que (stpN ts1 ts2 m1 m2) (letN ts1 ts2) okN (startN ts1 ts2 m1 m2) ps ws n) : ∀ p ∈ ps, ∃ (i : Nat) (w : List Str), ps[i]? = some p ∧ ws[i]? = some w ∧ p = goN ts1 ts2 m1 m2 w := fun p hp => by
  obtain ⟨i, hi⟩ := List.mem_iff_getElem?.mp hp
  have l : i < ws.length := by rw [q.len]; exact (List.getElem?_eq_some_iff.mp hi).1
  have e := q.is i p ws[i] hi (List.getElem?_eq_getElem l)
  rw [go_seen] at e
  exact ⟨i, ws[i], hi, List.getElem?_eq_getElem l, e.symm⟩
theorem goN_good (w : List Str) : Good m1 m2 (goN ts1 ts2 m1 m2 w) := ⟨seen_asc w, seen_asc w, seen_inr w, seen_inr w⟩
theorem que_goods {ps : List Node} {ws : List (List Str)} {n : Nat} (q : BF.Que (stpN ts1 ts2 m1 m2) (letN ts1 ts2) okN (startN ts1 ts2 m1 m2) ps ws n) : ∀ p ∈ ps, Good m1 m2 p := fun p hp => by
  obtain ⟨_, w, _, _, e⟩ := que_good q p hp
  rw [e]; exact goN_good w
/-- a search that is whole shows -/
theorem whole_shows {ps : List Node} {ws : List (List Str)} (q : BF.Que (stpN ts1 ts2 m1 m2) (letN ts1 ts2) okN (startN ts1 ts2 m1 m2) ps ws ps.length) : ShowsA ts1 ts2 m1 m2 ps := by
  refine ⟨List.mem_of_getElem? q.first, fun p hp => ?_⟩
  obtain ⟨i, w, hi, hw, e⟩ := que_good q p hp
  have il : i < ps.length := (List.getElem?_eq_some_iff.mp hi).1
  have word : ∀ x, x ∈ letN ts1 ts2 p → okN (stpN ts1 ts2 m1 m2 p x) ∧ stpN ts1 ts2 m1 m2 p x ∈ ps := fun x hx => by
    obtain ⟨a, j, _, b, _, _⟩ := q.done i p w x il hi hw hx
    exact ⟨a, List.mem_of_getElem? b⟩
  have ne : ∀ {ts : List Stp} {ns : List Int} {x : Str}, WordsAt ts ns x → x ≠ Str.ofString "" := fun ⟨_, _, _, z, _⟩ => z
  refine ⟨by rw [e]; exact spr_seen w, by rw [e]; exact spr_seen w, fun x => ⟨fun h => ?_, fun h => ?_⟩, fun x h => (word x ((mem_letN ts1 ts2).mpr (.inl h))).2⟩
  · exact aft_word (ne h) (word x ((mem_letN ts1 ts2).mpr (.inl h))).1.2
  · exact aft_word (ne h) (word x ((mem_letN ts1 ts2).mpr (.inr h))).1.1
/-- what a found word is -/
structure Told (ts1 ts2 : List Stp) (m1 m2 : Int) (tr : List Str) (b : Bool) : Prop where
  ne : tr ≠ []
  over : OverAB tr
  first : decide (0 < (seen ts1 m1 tr).length) = b
  second : decide (0 < (seen ts2 m2 tr).length) = !b
  least : ∀ w : List Str, (∀ x ∈ w, x ≠ Str.ofString "") → Diff ts1 ts2 m1 m2 w → tr.length ≤ w.length
theorem told_of {ps : List Node} {ws : List (List Str)} {n : Nat} {u : List Str} {p : Node} {d : Str} (ab1 : StpAB ts1) (ab2 : StpAB ts2) (l1 : 1 ≤ m1) (l2 : 1 ≤ m2) (ok1 : ∀ t ∈ ts1, OkS m1 t) (ok2 : ∀ t ∈ ts2, OkS m2 t)
    (q : BF.Que (stpN ts1 ts2 m1 m2) (letN ts1 ts2) okN (startN ts1 ts2 m1 m2) ps ws n) (hp : ps[n]? = some p) (hu : ws[n]? = some u) (hd : d ∈ letN ts1 ts2 p) (no : ¬ okN (stpN ts1 ts2 m1 m2 p d)) :
    Told ts1 ts2 m1 m2 (u ++ [d]) (decide (0 < (aft ts1 m1 p.1 d).length)) := by
  obtain ⟨df, ep⟩ := found_diff q hp hu ok1 ok2 hd no
  have une : ∀ x ∈ u ++ [d], x ≠ Str.ofString "" := fun x hx => by
    rcases List.mem_append.mp hx with h | h
    · exact fine_words _ u (q.fine n u hu) x h
    · rw [List.mem_singleton.mp h]; exact word_ne hd
  have e1 : decide (0 < (seen ts1 m1 (u ++ [d])).length) = decide (0 < (aft ts1 m1 p.1 d).length) := by rw [seen_snoc, ep]
  refine ⟨by simp, diff_over ab1 ab2 une df, e1, ?_, fun w ne dw => ?_⟩
  · rw [← e1]
    unfold Diff at df
    revert df
    cases decide (0 < (seen ts1 m1 (u ++ [d])).length) <;> cases decide (0 < (seen ts2 m2 (u ++ [d])).length) <;> simp
  · have := found_least q hu l1 l2 ne dw
    rw [List.length_append]
    exact this
theorem Told.diff {tr : List Str} {b : Bool} (t : Told ts1 ts2 m1 m2 tr b) : Diff ts1 ts2 m1 m2 tr := by
  unfold Diff
  rw [t.first, t.second]
  cases b <;> decide
theorem Told.shows {tr : List Str} {b : Bool} (t : Told ts1 ts2 m1 m2 tr b) : ShowsU ts1 ts2 m1 m2 tr b := ⟨t.first, by rw [t.second]; cases b <;> decide, t.least⟩
theorem shows_diff {tr : List Str} {b : Bool} (s : ShowsU ts1 ts2 m1 m2 tr b) : Diff ts1 ts2 m1 m2 tr := fun e => s.2.1 (by rw [← e]; exact s.1)
theorem Told.due {tr : List Str} {b : Bool} (t : Told ts1 ts2 m1 m2 tr b) {due : Option Nat} (h : IsDue ts1 ts2 m1 m2 due) : due = some tr.length := by
  cases due with
  | none => exact absurd t.diff (h tr t.over)
  | some k =>
    obtain ⟨⟨w, w1, w2, w3⟩, w4⟩ := h
    have a := w4 tr t.over t.diff
    have b := t.least w (over_ne w1) w3
    rw [w2] at b
    rw [Nat.le_antisymm a b]
/-- a longer word does not show -/
theorem Told.longer {tr : List Str} {b c : Bool} {x : Str} (t : Told ts1 ts2 m1 m2 tr b) : ¬ ShowsU ts1 ts2 m1 m2 (tr ++ [x]) c := fun s => by
  have := s.2.2 tr (over_ne t.over) t.diff
  rw [List.length_append] at this
  exact absurd this (Nat.not_succ_le_self _)
theorem Told.shorter {tr : List Str} {b c : Bool} (t : Told ts1 ts2 m1 m2 tr b) : ¬ ShowsU ts1 ts2 m1 m2 tr.dropLast c := fun s => by
  have := t.least tr.dropLast (fun x hx => over_ne t.over x (List.dropLast_subset tr hx)) (shows_diff s)
  rw [List.length_dropLast] at this
  have p := List.length_pos_iff.mpr t.ne
  omega
theorem Told.other {tr : List Str} {b : Bool} (t : Told ts1 ts2 m1 m2 tr b) : ¬ ShowsU ts1 ts2 m1 m2 tr (!b) := fun s => by
  have := s.1
  rw [t.first] at this
  cases b <;> cases this
theorem whole_due {ps : List Node} {ws : List (List Str)} (q : BF.Que (stpN ts1 ts2 m1 m2) (letN ts1 ts2) okN (startN ts1 ts2 m1 m2) ps ws ps.length) (l1 : 1 ≤ m1) (l2 : 1 ≤ m2) {due : Option Nat} (h : IsDue ts1 ts2 m1 m2 due) : due = none := by
  cases due with
  | none => rfl
  | some k =>
    obtain ⟨⟨w, w1, _, w3⟩, _⟩ := h
    exact absurd w3 (whole_same q l1 l2 (over_ne w1))
theorem whole_unlike {ps : List Node} {ws : List (List Str)} (q : BF.Que (stpN ts1 ts2 m1 m2) (letN ts1 ts2) okN (startN ts1 ts2 m1 m2) ps ws ps.length) (l1 : 1 ≤ m1) (l2 : 1 ≤ m2) {w : List Str} {b : Bool} (ne : ∀ x ∈ w, x ≠ Str.ofString "") : ¬ ShowsU ts1 ts2 m1 m2 w b := fun s => whole_same q l1 l2 ne (shows_diff s)
theorem nil_shows : ¬ ShowsA ts1 ts2 m1 m2 [] := fun s => nomatch s.1
theorem no_start {ps : List Node} (h : startN ts1 ts2 m1 m2 ∉ ps) : ¬ ShowsA ts1 ts2 m1 m2 ps := fun s => h s.1
/-- a machine and itself -/
theorem same_not {ts : List Stp} {m : Int} {w : List Str} : ¬ Diff ts ts m m w := fun d => d rfl
end
end K1
end
section
/-! The law: what is drawn. -/
namespace K1
open PySem L2
open MX (Rise Up)
theorem pe_both {X : Cx} {e : Expr} {a b : TE} (x : PE X e a) (y : PE X e b) : PE X e (fun σ H Q => a σ H Q ∨ b σ H Q) := ⟨fun pins s σ H Q I h => h.elim (x.run pins s σ H Q I) (y.run pins s σ H Q I)⟩
theorem kindAt_mem (ns : List Int) {ks : List Str} (p : Int) (h : 0 < ks.length) : kindAt ns ks p ∈ ks := by
  have q := draw_lt ns p (m := (ks.length : Int)) (by omega)
  have lt : (draw ns p ks.length).toNat < ks.length := by omega
  unfold kindAt
  rw [List.getD_eq_getElem?_getD, List.getElem?_eq_getElem lt]
  exact List.getElem_mem lt
theorem stepsOf_ok (ns : List Int) (p most : Int) (ks ws : List Str) (m0 : 2 ≤ most) (k0 : 0 < ks.length) (w0 : 0 < ws.length) (hk : ∀ x ∈ ks, wordE (.str x) = true) (hw : ∀ x ∈ ws, wordE (.str x) = true) :
    ∀ s ∈ stepsOf ns p most ks ws, OkS (manyOf ns p most) s ∧ s.s ∈ ws := by
  intro s hs
  obtain ⟨j, hj, rfl⟩ := List.mem_map.mp hs
  have M := manyOf_in ns p m0
  have g := draw_lt ns (p + 5 * (j : Int) + 2 + 4) (m := manyOf ns p most) (by omega)
  have a := draw_lt ns (p + 5 * (j : Int) + 2 + 3) (m := manyOf ns p most) (by omega)
  have km := kindAt_mem ns (p + 5 * (j : Int) + 2 + 1) k0
  have wm := kindAt_mem ns (p + 5 * (j : Int) + 2 + 2) w0
  have ea : (drawStp ns p (manyOf ns p most) ks ws (j : Int)).a = if (j : Int) + 1 < manyOf ns p most ∧ draw ns (p + 5 * (j : Int) + 2) 2 = 0 then (j : Int) else draw ns (p + 5 * (j : Int) + 2 + 3) (manyOf ns p most) := rfl
  have ha : 0 ≤ (drawStp ns p (manyOf ns p most) ks ws (j : Int)).a ∧ (drawStp ns p (manyOf ns p most) ks ws (j : Int)).a < manyOf ns p most := by
    rw [ea]
    split
    · omega
    · exact a
  exact ⟨⟨ha.1, ha.2, g.1, g.2, hk _ km, hw _ wm⟩, wm⟩
/-- the free kinds that are drawn -/
def frees : List (List Str) := [[], [Str.ofString "x"], [Str.ofString "x", Str.ofString "y"], [Str.ofString "q", Str.ofString "y"]]
theorem frees_ok : ∀ ks ∈ frees, Asc ks ∧ ks.length < 64 ∧ ∀ k ∈ ks, wordS k = true := by
  unfold frees Asc MX.Up
  decide +kernel
theorem make_goodH {K : PySem.W.Frag} {C CB x dx l : Addr} {H1 : Hp} {many : Int} {xs : List V} {sts : List Stp} {R : Hp → Prop} {E : XK} (nx : H1 x = none) (ndx : H1 dx = none) (hl : H1 l = some (.lst xs) ∨ H1 l = some (.tup xs)) (row : Row H1 xs sts) (oks : ∀ s ∈ sts, OkS many s)
    (m1 : 1 ≤ many) (m2 : many ≤ 3000) (few : xs.length < 64) (k : ∀ H' sts', Same H1 H' → Rise (sts'.map stpK) → (∀ s, s ∈ sts' ↔ s ∈ sts) → MachAt C H' x many sts' → R H') :
    spMInit K C CB [.ref x, .int many, .ref l] (upd (upd H1 dx (.own x)) x (.ins C dx [])) (fun v H2 => v = .non ∧ R H2) E := by
  have e : Same H1 (upd (upd H1 dx (.own x)) x (.ins C dx [])) := fun b o z => by
    rw [upd_ne (ne_of_none z nx), upd_ne (ne_of_none z ndx)]; exact z
  exact ⟨x, dx, _, _, rfl, upd_same, .inr ⟨many, l, xs, rfl, m1, m2, rfl, hl.imp (e _ _) (e _ _), few, .inr ⟨sts, row.same e, oks, fun H' sts' rise mem M off => ⟨rfl, k H' sts' (fun b o z => off b o (e _ _ z) (ne_of_none z nx)) rise mem M⟩⟩⟩⟩
/-- a part of a row of steps -/
theorem row_part {H : Hp} {xs : List V} {sts : List Stp} (r : Row H xs sts) : ∀ ys : List V, (∀ y ∈ ys, y ∈ xs) → ∃ ss, Row H ys ss ∧ ∀ s ∈ ss, s ∈ sts
  | [], _ => ⟨[], .nil, fun s h => by cases h⟩
  | y :: ys, h => by
    obtain ⟨ss, a, b⟩ := row_part r ys fun z hz => h z (List.mem_cons_of_mem _ hz)
    obtain ⟨s, hs, p, e1, e2⟩ := r.each y (h y List.mem_cons_self)
    refine ⟨s :: ss, .cons ⟨p, e1, e2⟩ a, fun t ht => ?_⟩
    rcases List.mem_cons.mp ht with e | ht
    · rw [e]; exact hs
    · exact b t ht
theorem mem_cutV {xs : List V} {lo hi : Option Int} : ∀ y ∈ cutV xs lo hi, y ∈ xs := fun y hy => by
  unfold cutV at hy
  exact List.mem_of_mem_drop (List.mem_of_mem_take hy)
/-- steps that are drawn -/
structure Drawn (H : Hp) (l : Addr) (m : Int) : Prop where
  row : ∃ (xs : List V) (ss : List Stp), H l = some (.lst xs) ∧ Row H xs ss ∧ (∀ s ∈ ss, OkS m s) ∧ StpAB ss ∧ xs.length ≤ 24
  low : 2 ≤ m
  high : m ≤ 5
theorem Drawn.same {H H' : Hp} {l : Addr} {m : Int} (d : Drawn H l m) (e : Same H H') : Drawn H' l m := by
  obtain ⟨⟨xs, ss, a, b, c⟩, lo, hi⟩ := d
  exact ⟨⟨xs, ss, e _ _ a, b.same e, c⟩, lo, hi⟩
theorem drawn_of {H : Hp} {l : Addr} {xs : List V} {ns : List Int} {p : Int} (hl : H l = some (.lst xs)) (row : Row H xs (stepsOf ns p 5 [Str.ofString "", Str.ofString "", Str.ofString "x", Str.ofString "y"] [Str.ofString "", Str.ofString "a", Str.ofString "b"])) : Drawn H l (manyOf ns p 5) ∧ 2 ≤ xs.length ∧ xs.length ≤ 12 := by
  have mo := manyOf_in ns p (most := 5) (by decide)
  have tn := turnsOf_in ns p (most := 5) (by decide)
  have ok := stepsOf_ok ns p 5 [Str.ofString "", Str.ofString "", Str.ofString "x", Str.ofString "y"] [Str.ofString "", Str.ofString "a", Str.ofString "b"] (by decide) (by decide) (by decide) (by decide +kernel) (by decide +kernel)
  have lx := row.length
  have ln : (stepsOf ns p 5 [Str.ofString "", Str.ofString "", Str.ofString "x", Str.ofString "y"] [Str.ofString "", Str.ofString "a", Str.ofString "b"]).length = (turnsOf ns p 5).toNat := by
    unfold stepsOf
    rw [List.length_map, List.length_range]
  refine ⟨⟨⟨xs, _, hl, row, fun s hs => (ok s hs).1, fun s hs => ?_, by omega⟩, mo.1, mo.2⟩, by omega, by omega⟩
  have m := (ok s hs).2
  rcases List.mem_cons.mp m with e | m
  · exact .inl e
  · exact .inr m
abbrev sLaw : Stmt := top 36
abbrev nLaw : List Str := ["script", "many", "steps", "few", "others", "at", "one", "other", "free", "due", "found", "first", "second", "letter", "longer", "start", "size", "word", "states", "bad", "pair", "spot"]
theorem scLaw : FnScope nLaw ["script"] (defScope sLaw) := ⟨rfl, rfl, rfl, by decide +kernel, rfl, by decide +kernel, by decide +kernel⟩
abbrev lawX (P : Program) (w : World) (K : PySem.W.Frag) (mg : Str → Option Value) (base : Heap) (f : Addr) (cdv : Value) (A : Around) (outer : List Env) (s : Shared) (H0 : Hp) (E : XK) : Cx := (cxOf CX0 P w K mg base nLaw "law" (defScope sLaw) f cdv A outer s H0 E).nox
structure TxtLw (K : PySem.W.Frag) (mg : Str → Option Value) (C CO CA CU CS : Addr) : Prop where
  len : mg "len" = none
  bool : mg "bool" = none
  isinstance : mg "isinstance" = none
  range : mg "range" = none
  Machine : GCl K mg C "Machine"
  Alike : GCl K mg CA "Alike"
  Unlike : GCl K mg CU "Unlike"
  n_steps : NoAttr K C "steps"
  n_pairs : NoAttr K CA "pairs"
  n_trace : NoAttr K CU "trace"
  n_is_first : NoAttr K CU "is_first"
  c_BadKinds : mg "BadKinds" = some (.ref CS)
  te_BadKinds : PySem.W.exmOne K (.ref CS) (.ref CS) = some true
/-- behind what is drawn of steps -/
def LawS1 (K : PySem.W.Frag) (ns : List Int) (σ : L2.St) (H : Hp) : Prop := ∃ (a l1 l2 : Addr) (m1 m2 : Int) (s5 : Option V), σ = [some (.ref a), some (.int m1), some (.ref l1), some (.int m2), some (.ref l2), s5, none, none, none, none, none, none, none, none, none, none, none, none, none, none, none, none] ∧ SqL K H a (ns.map V.int) ∧ ns.length ≤ 63 ∧ Drawn H l1 m1 ∧ Drawn H l2 m2
section
variable {P : Program} {w : World} {K : PySem.W.Frag} {mg : Str → Option Value} {base : Heap} {C CO CA CU CS : Addr} {f : Addr} {cdv : Value} {A : Around} {outer : List Env} {s : Shared} {H0 : Hp} {E : XK}
set_option maxHeartbeats 1000000 in
theorem law_A1 {fM fD a : Addr} {fdM fdD : FuncData} {ns : List Int} (T : TxtLw K mg C CO CA CU CS)
    (A_law_machine : At1 K mg "_law_machine" fM) (G_law_machine : FnOk P w K mg base CX0 2 fM fdM ["script", "at", "most", "kinds", "words"] (spMach K)) (b_law_machine : Binds K fdM ["script", "at", "most", "kinds", "words"] [])
    (A_law_draw : At1 K mg "_law_draw" fD) (G_law_draw : FnOk P w K mg base CX0 1 fD fdD ["script", "at", "many"] (spDraw K)) (b_law_draw : Binds K fdD ["script", "at", "many"] [])
    (hr : Room 8 (lawX P w K mg base f cdv A outer s H0 E).A)
    (rest : ∃ t, PSs (lawX P w K mg base f cdv A outer s H0 E) ((defBody sLaw).drop 2) t ∧ ∀ σ H D, LawS1 K ns σ H → (∀ H', D.rt (.bl true) H') → t D σ H) :
    ∃ t, PSs (lawX P w K mg base f cdv A outer s H0 E) (defBody sLaw) t ∧ ∀ H D, SqL K H a (ns.map V.int) → ns.length ≤ 63 → (∀ H', D.rt (.bl true) H') → t D [some (.ref a), none, none, none, none, none, none, none, none, none, none, none, none, none, none, none, none, none, none, none, none, none] H := by
  have nd := scLaw.nd
  have hu := hr.units
  have hr_law_machine : Room 2 _ := hr.mono (by decide)
  have hr_law_draw : Room 1 _ := hr.mono (by decide)
  obtain ⟨tR, hR, restR⟩ := rest
  refine ⟨_, (pss_cons (ps_asg (pe_call G_law_machine hr_law_machine (by rfl) A_law_machine.g A_law_machine.k b_law_machine .nil pass0 (pa_cons (pv 0) (pa_cons pe_int (pa_cons pe_int (pa_cons (pe_tup (pa_cons pe_str (pa_cons pe_str (pa_cons pe_str (pa_cons pe_str pa_nil))))) (pa_cons (pe_tup (pa_cons pe_str (pa_cons pe_str (pa_cons pe_str pa_nil)))) pa_nil)))))) (pg_tup rfl (pgs_cons (pg_name (i := 1) nd rfl (Or.inl rfl)) (pgs_cons (pg_name (i := 2) nd rfl (Or.inl rfl)) pgs_nil))))
      (pss_cons (ps_if (pt_cmpR op_eq (pe_call G_law_draw hr_law_draw (by rfl) A_law_draw.g A_law_draw.k b_law_draw .nil pass0 (pa_cons (pv 0) (pa_cons pe_int (pa_cons pe_int pa_nil)))) pe_int (nomark _))
        (pss_one (ps_asg (pe_call G_law_machine hr_law_machine (by rfl) A_law_machine.g A_law_machine.k b_law_machine .nil pass0 (pa_cons (pv 0) (pa_cons pe_int (pa_cons pe_int (pa_cons (pe_tup (pa_cons pe_str (pa_cons pe_str (pa_cons pe_str (pa_cons pe_str pa_nil))))) (pa_cons (pe_tup (pa_cons pe_str (pa_cons pe_str (pa_cons pe_str pa_nil)))) pa_nil)))))) (pg_tup rfl (pgs_cons (pg_name (i := 3) nd rfl (Or.inl rfl)) (pgs_cons (pg_name (i := 4) nd rfl (Or.inl rfl)) pgs_nil)))))
        (pss_cons (ps_set (i := 5) nd rfl (Or.inl rfl) (pe_call G_law_draw hr_law_draw (by rfl) A_law_draw.g A_law_draw.k b_law_draw .nil pass0 (pa_cons (pv 0) (pa_cons pe_int (pa_cons (pe_callB call_len_seq (by rfl) T.len PySem.boot_len (pa_cons (pv 2) pa_nil)) pa_nil)))))
        (pss_one (ps_par (i := 3) (j := 4) (by rfl) nd rfl rfl (by decide) rfl rfl (pa_cons (pv 1) (pa_cons (pe_op op_cat (pe_slice sl_list (pv 2) po_none (po_some (pv 5))) (pe_slice sl_list (pv 2) (po_some (pe_op op_add (pv 5) pe_int)) po_none)) pa_nil)) (by rfl)))))
      hR)), ?_⟩
  intro H D hS hl k
  refine into ⟨_, rfl, by show 4 ≤ sizeLine; decide, fun t1 n1 => ⟨by show 3 ≤ sizeLine; decide, fun t2 n2 => ?_⟩⟩
  have g1 : Same H _ := same_new (o := .tup [V.str (Str.ofString ""), V.str (Str.ofString ""), V.str (Str.ofString "x"), V.str (Str.ofString "y")]) n1
  have g2 := same_new (o := .tup [V.str (Str.ofString ""), V.str (Str.ofString "a"), V.str (Str.ofString "b")]) n2
  refine ⟨a, t1, t2, ns, 0, 5, [Str.ofString "", Str.ofString "", Str.ofString "x", Str.ofString "y"], [Str.ofString "", Str.ofString "a", Str.ofString "b"], rfl, (g1.trans g2).seq hS, hl, by decide, by decide, by decide, by decide, SqT.of (g2 _ _ upd_same), SqT.of upd_same, by decide, by decide, fun H1 tw l1 xs e1 htw hx row => ?_⟩
  have e01 := (g1.trans g2).trans e1
  clear g1 g2 e1 n1 n2
  obtain ⟨dr1, x2, x12⟩ := drawn_of hx row
  refine ⟨tw, _, rfl, SqT.of htw, rfl, _, _, rfl, _, _, rfl, rfl, ?_⟩
  dsimp only
  refine into ⟨_, rfl, a, ns, 300, 2, rfl, e01.seq hS, hl, by decide, by decide, by decide, fun H2 e2 => ⟨rfl, _, rfl, ?_⟩⟩
  have e02 := e01.trans e2
  by_cases c : draw ns 300 2 = 0
  · refine iteT' (by simp [c]) ?_
    refine ⟨_, rfl, by show 4 ≤ sizeLine; decide, fun t1 n1 => ⟨by show 3 ≤ sizeLine; decide, fun t2 n2 => ?_⟩⟩
    have g1 : Same H2 _ := same_new (o := .tup [V.str (Str.ofString ""), V.str (Str.ofString ""), V.str (Str.ofString "x"), V.str (Str.ofString "y")]) n1
    have g2 := same_new (o := .tup [V.str (Str.ofString ""), V.str (Str.ofString "a"), V.str (Str.ofString "b")]) n2
    refine ⟨a, t1, t2, ns, 100, 5, [Str.ofString "", Str.ofString "", Str.ofString "x", Str.ofString "y"], [Str.ofString "", Str.ofString "a", Str.ofString "b"], rfl, (g1.trans g2).seq (e02.seq hS), hl, by decide, by decide, by decide, by decide, SqT.of (g2 _ _ upd_same), SqT.of upd_same, by decide, by decide, fun H3 tv l2 ys e3 htv hy row2 => ?_⟩
    have e23 := (g1.trans g2).trans e3
    refine ⟨tv, _, rfl, SqT.of htv, rfl, _, _, rfl, _, _, rfl, rfl, ?_⟩
    exact restR _ _ D ⟨a, l1, l2, _, _, _, rfl, (e02.trans e23).seq hS, hl, dr1.same (e2.trans e23), (drawn_of hy row2).1⟩ k
  · refine iteF' (by simp [c]) ?_
    refine into ⟨_, rfl, _, rfl, l1, _, rfl, .inl (SqL.of (e2 _ _ hx)), a, ns, 301, (xs.length : Int), rfl, e02.seq hS, hl, by decide, by decide, by omega, fun H3 e3 => ?_⟩
    have d := draw_lt ns 301 (m := (xs.length : Int)) (by omega)
    have hx3 := e3 _ _ (e2 _ _ hx)
    have e03 := e02.trans e3
    have row3 := row.same (e2.trans e3)
    have dr3 := dr1.same (e2.trans e3)
    generalize draw ns 301 (xs.length : Int) = at_ at d
    clear e3 e2 e01 row hx dr1 e02
    refine ⟨_, rfl, _, rfl, _, rfl, at_, rfl, l1, _, rfl, SqL.of hx3, fun q1 n1 => ?_⟩
    have e1 : Same H3 (upd H3 q1 (.lst (cutV xs none (some at_)))) := same_new n1
    have h1 : (upd H3 q1 (.lst (cutV xs none (some at_)))) q1 = some (.lst (cutV xs none (some at_))) := upd_same
    generalize upd H3 q1 (.lst (cutV xs none (some at_))) = H4 at e1 h1
    refine ⟨_, rfl, _, rfl, _, _, rfl, rfl, at_ + 1, rfl, l1, _, rfl, SqL.of (e1 _ _ hx3), fun q2 n2 => ?_⟩
    have e2 : Same H4 (upd H4 q2 (.lst (cutV xs (some (at_ + 1)) none))) := same_new n2
    have h2 : (upd H4 q2 (.lst (cutV xs (some (at_ + 1)) none))) q2 = some (.lst (cutV xs (some (at_ + 1)) none)) := upd_same
    have c1 := cutV_length xs none (some at_)
    have c2 := cutV_length xs (some (at_ + 1)) none
    refine ⟨q1, q2, _, _, rfl, rfl, e2 _ _ h1, h2, by rw [sizeLine_eq]; omega, fun q3 n3 => ?_⟩
    generalize upd H4 q2 (.lst (cutV xs (some (at_ + 1)) none)) = H5 at e2 n3
    have e3 : Same H5 (upd H5 q3 (.lst (cutV xs none (some at_) ++ cutV xs (some (at_ + 1)) none))) := same_new n3
    have e35 := (e1.trans e2).trans e3
    obtain ⟨⟨ys, ss, y1, y2, y3, y4, y5⟩, lo, hi⟩ := dr3
    rw [hx3] at y1
    cases y1
    obtain ⟨ss', r', sub⟩ := row_part (y2.same e35) (cutV xs none (some at_) ++ cutV xs (some (at_ + 1)) none) fun y hy => (List.mem_append.mp hy).elim (mem_cutV y) (mem_cutV y)
    exact ⟨_, _, rfl, restR _ _ D ⟨a, l1, q3, _, _, _, rfl, (e03.trans e35).seq hS, hl, ⟨⟨xs, ss, e35 _ _ hx3, y2.same e35, y3, y4, y5⟩, lo, hi⟩, ⟨⟨_, ss', upd_same, r', fun s hs => y3 s (sub s hs), fun s hs => y4 s (sub s hs), by rw [List.length_append]; omega⟩, lo, hi⟩⟩ k⟩
end
end K1
end
section
/-! The law: machines and free kinds. -/
namespace K1
open PySem L2
open MX (Rise Up)
theorem ab_okW {ts : List Stp} (h : StpAB ts) : okW ts := fun t ht => by
  rcases h t ht with e | e
  · rw [e]; decide +kernel
  · unfold abW at e
    simp only [List.mem_cons, List.not_mem_nil, or_false] at e
    rcases e with e | e <;> rw [e] <;> decide +kernel
/-- what the law has drawn -/
structure Bas (K : PySem.W.Frag) (C : Addr) (H : Hp) (a p1 p2 fr : Addr) (ns : List Int) (m1 m2 : Int) (st1 st2 : List Stp) (ks : List Str) : Prop where
  script : SqL K H a (ns.map V.int)
  short : ns.length ≤ 63
  two : Two C H p1 p2 fr m1 m2 st1 st2 ks
  ab1 : StpAB st1
  ab2 : StpAB st2
theorem Bas.same {K : PySem.W.Frag} {C : Addr} {H H' : Hp} {a p1 p2 fr : Addr} {ns : List Int} {m1 m2 : Int} {st1 st2 : List Stp} {ks : List Str} (b : Bas K C H a p1 p2 fr ns m1 m2 st1 st2 ks) (e : Same H H') : Bas K C H' a p1 p2 fr ns m1 m2 st1 st2 ks := ⟨e.seq b.script, b.short, b.two.same e, b.ab1, b.ab2⟩
def LawS2 (K : PySem.W.Frag) (C : Addr) (ns : List Int) (σ : L2.St) (H : Hp) : Prop := ∃ (a p1 p2 fr : Addr) (m1 m2 : Int) (st1 st2 : List Stp) (ks : List Str) (s1 s2 s3 s4 s5 : Option V), σ = [some (.ref a), s1, s2, s3, s4, s5, some (.ref p1), some (.ref p2), some (.ref fr), none, none, none, none, none, none, none, none, none, none, none, none, none] ∧ Bas K C H a p1 p2 fr ns m1 m2 st1 st2 ks
section
variable {P : Program} {w : World} {K : PySem.W.Frag} {mg : Str → Option Value} {base : Heap} {C CB CO CA CU CS : Addr} {f : Addr} {cdv : Value} {A : Around} {outer : List Env} {s : Shared} {H0 : Hp} {E : XK}
set_option maxHeartbeats 1000000 in
theorem law_A2 {fX fD : Addr} {fdX fdD : FuncData} {ns : List Int} (T : TxtLw K mg C CO CA CU CS)
    (M_Machine : Mk K C fX) (G_Machine : FnOk P w K mg base (L2.CX P w) 4 fX fdX ["self", "many", "steps"] (spMInit K C CB)) (b_Machine : Binds K fdX ["self", "many", "steps"] [])
    (A_law_draw : At1 K mg "_law_draw" fD) (G_law_draw : FnOk P w K mg base CX0 1 fD fdD ["script", "at", "many"] (spDraw K)) (b_law_draw : Binds K fdD ["script", "at", "many"] [])
    (hr : Room 8 (lawX P w K mg base f cdv A outer s H0 E).A)
    (rest : ∃ t, PSs (lawX P w K mg base f cdv A outer s H0 E) ((defBody sLaw).drop 4) t ∧ ∀ σ H D, LawS2 K C ns σ H → (∀ H', D.rt (.bl true) H') → t D σ H) :
    ∃ t, PSs (lawX P w K mg base f cdv A outer s H0 E) ((defBody sLaw).drop 2) t ∧ ∀ σ H D, LawS1 K ns σ H → (∀ H', D.rt (.bl true) H') → t D σ H := by
  have nd := scLaw.nd
  have hu := hr.units
  have hr_Machine : Room 5 _ := hr.mono (by decide)
  have hr_law_draw : Room 1 _ := hr.mono (by decide)
  obtain ⟨tR, hR, restR⟩ := rest
  refine ⟨_, (pss_cons (ps_par (i := 6) (j := 7) (by rfl) nd rfl rfl (by decide) rfl rfl (pa_cons (pe_make M_Machine G_Machine hr_Machine (by rfl) T.Machine.g b_Machine .nil passL (pa_cons (pv 1) (pa_cons (pv 2) pa_nil))) (pa_cons (pe_make M_Machine G_Machine hr_Machine (by rfl) T.Machine.g b_Machine .nil passL (pa_cons (pv 3) (pa_cons (pv 4) pa_nil))) pa_nil)) (by rfl))
      (pss_cons (ps_set (i := 8) nd rfl (Or.inl rfl) (pe_ix ix_tup (pe_tup (pa_cons (pe_tup pa_nil) (pa_cons (pe_tup (pa_cons pe_str pa_nil)) (pa_cons (pe_tup (pa_cons pe_str (pa_cons pe_str pa_nil))) (pa_cons (pe_tup (pa_cons pe_str (pa_cons pe_str pa_nil))) pa_nil))))) (pe_call G_law_draw hr_law_draw (by rfl) A_law_draw.g A_law_draw.k b_law_draw .nil pass0 (pa_cons (pv 0) (pa_cons pe_int (pa_cons pe_int pa_nil)))) (fun _ _ => rfl)))
      hR)), ?_⟩
  rintro σ H D ⟨a, l1, l2, m1, m2, s5, rfl, hS, hl, ⟨⟨xs1, ss1, x1, r1, ok1, ab1, f1⟩, lo1, hi1⟩, ⟨⟨xs2, ss2, x2, r2, ok2, ab2, f2⟩, lo2, hi2⟩⟩ k
  refine into ⟨_, rfl, _, rfl, ?_⟩
  intro p1 dp np ndp nep
  have lx1 := r1.length
  have lx2 := r2.length
  refine make_goodH (many := m1) (sts := ss1) np ndp (.inl x1) r1 ok1 (by omega) (by omega) (by omega) fun H1 us1 e1 rise1 mem1 M1 => ?_
  refine ⟨_, rfl, _, rfl, ?_⟩
  intro p2 dp2 np2 ndp2 nep2
  refine make_goodH (many := m2) (sts := ss2) np2 ndp2 (.inl (e1 _ _ x2)) (r2.same e1) ok2 (by omega) (by omega) (by omega) fun H2 us2 e2 rise2 mem2 M2 => ?_
  have lu1 : us1.length ≤ ss1.length := short_any (rise_nodup rise1) fun s hs => (mem1 s).mp hs
  have lu2 : us2.length ≤ ss2.length := short_any (rise_nodup rise2) fun s hs => (mem2 s).mp hs
  refine ⟨_, _, rfl, ?_⟩
  have M1' := M1.same e2
  have e02 := e1.trans e2
  clear M1 e1 np ndp nep np2 ndp2 nep2 e2
  refine into ⟨by show 0 ≤ sizeLine; decide, fun q1 z1 => ⟨by show 1 ≤ sizeLine; decide, fun q2 z2 => ⟨by show 2 ≤ sizeLine; decide, fun q3 z3 => ⟨by show 2 ≤ sizeLine; decide, fun q4 z4 => ⟨by show 4 ≤ sizeLine; decide, fun q z => ?_⟩⟩⟩⟩⟩
  have f1' : Same H2 _ := same_new (o := .tup []) z1
  have f2' := same_new (o := .tup [V.str (Str.ofString "x")]) z2
  have f3' := same_new (o := .tup [V.str (Str.ofString "x"), V.str (Str.ofString "y")]) z3
  have f4' := same_new (o := .tup [V.str (Str.ofString "q"), V.str (Str.ofString "y")]) z4
  have f5' := same_new (o := .tup [.ref q1, .ref q2, .ref q3, .ref q4]) z
  have f05 := f1'.trans (f2'.trans (f3'.trans (f4'.trans f5')))
  refine ⟨_, rfl, a, ns, 302, 4, rfl, (e02.trans f05).seq hS, hl, by decide, by decide, by decide, fun H3 e3 => ?_⟩
  have dr := draw_lt ns 302 (m := 4) (by omega)
  have pick : ∃ (r : Addr) (ks : List Str), atI [V.ref q1, V.ref q2, V.ref q3, V.ref q4] (draw ns 302 4) = some (.ref r) ∧ H3 r = some (.tup (ks.map V.str)) ∧ ks ∈ frees := by
    rcases (by omega : draw ns 302 4 = 0 ∨ draw ns 302 4 = 1 ∨ draw ns 302 4 = 2 ∨ draw ns 302 4 = 3) with e | e | e | e <;> rw [e]
    · exact ⟨q1, [], atI_nat (j := 0) rfl, e3 _ _ (f5' _ _ (f4' _ _ (f3' _ _ (f2' _ _ upd_same)))), .head _⟩
    · exact ⟨q2, [Str.ofString "x"], atI_nat (j := 1) rfl, e3 _ _ (f5' _ _ (f4' _ _ (f3' _ _ upd_same))), .tail _ (.head _)⟩
    · exact ⟨q3, [Str.ofString "x", Str.ofString "y"], atI_nat (j := 2) rfl, e3 _ _ (f5' _ _ (f4' _ _ upd_same)), .tail _ (.tail _ (.head _))⟩
    · exact ⟨q4, [Str.ofString "q", Str.ofString "y"], atI_nat (j := 3) rfl, e3 _ _ (f5' _ _ upd_same), .tail _ (.tail _ (.tail _ (.head _)))⟩
  obtain ⟨fr, ks, at_, hfr, hks⟩ := pick
  refine ⟨q, _, _, _, rfl, rfl, SqT.of (e3 _ _ upd_same), at_, ?_⟩
  obtain ⟨asc, lks, wks⟩ := frees_ok ks hks
  have e23 := f05.trans e3
  exact restR _ _ D ⟨a, p1, p2, fr, m1, m2, us1, us2, ks, _, _, _, _, _, rfl, ⟨(e02.trans e23).seq hS, hl, ⟨M1'.same e23, M2.same e23, fun s hs => ok1 s ((mem1 s).mp hs), fun s hs => ok2 s ((mem2 s).mp hs), by omega, by omega, by omega, by omega, by omega, by omega, hfr, lks, asc, wks⟩, fun t ht => ab1 t ((mem1 t).mp ht), fun t ht => ab2 t ((mem2 t).mp ht)⟩⟩ k
end
end K1
end
section
/-! The law: what is found, and that it shows. -/
namespace K1
open PySem L2
open MX (Rise Up)
abbrev opn (st : List Stp) (ks : List Str) : List Stp := st.filter (isOpen ks)
/-- found: alike -/
def FoA (CA : Addr) (H : Hp) (X : Addr) (ts1 ts2 : List Stp) (m1 m2 : Int) : Prop := ∃ (dx l : Addr) (ps : List Node) (ws : List (List Str)), H X = some (.ins CA dx (aF l)) ∧ PairsAt H l ps ∧ BF.Que (stpN ts1 ts2 m1 m2) (letN ts1 ts2) okN (startN ts1 ts2 m1 m2) ps ws ps.length ∧ ps.Nodup
/-- found: unlike -/
def FoU (CU : Addr) (H : Hp) (X : Addr) (ts1 ts2 : List Stp) (m1 m2 : Int) (tr : List Str) (b : Bool) : Prop := ∃ (dx l : Addr), H X = some (.ins CU dx (uF l (.bl b))) ∧ H l = some (.lst (tr.map V.str)) ∧ Told ts1 ts2 m1 m2 tr b ∧ tr.length ≤ 70000
theorem FoA.same {CA : Addr} {H H' : Hp} {X : Addr} {ts1 ts2 : List Stp} {m1 m2 : Int} (h : FoA CA H X ts1 ts2 m1 m2) (e : Same H H') : FoA CA H' X ts1 ts2 m1 m2 := by
  obtain ⟨dx, l, ps, ws, a, b, c⟩ := h
  exact ⟨dx, l, ps, ws, e _ _ a, b.same e, c⟩
theorem FoU.same {CU : Addr} {H H' : Hp} {X : Addr} {ts1 ts2 : List Stp} {m1 m2 : Int} {tr : List Str} {b : Bool} (h : FoU CU H X ts1 ts2 m1 m2 tr b) (e : Same H H') : FoU CU H' X ts1 ts2 m1 m2 tr b := by
  obtain ⟨dx, l, a, c, d⟩ := h
  exact ⟨dx, l, e _ _ a, e _ _ c, d⟩
/-- what is found, and the least length by the law's own search -/
def Fo (CA CU : Addr) (H : Hp) (X : Addr) (ts1 ts2 : List Stp) (m1 m2 : Int) (due : Option Nat) : Prop := (FoA CA H X ts1 ts2 m1 m2 ∧ due = none) ∨ ∃ tr b, FoU CU H X ts1 ts2 m1 m2 tr b ∧ due = some tr.length
theorem Fo.same {CA CU : Addr} {H H' : Hp} {X : Addr} {ts1 ts2 : List Stp} {m1 m2 : Int} {due : Option Nat} (h : Fo CA CU H X ts1 ts2 m1 m2 due) (e : Same H H') : Fo CA CU H' X ts1 ts2 m1 m2 due :=
  h.imp (fun h => ⟨h.1.same e, h.2⟩) fun ⟨tr, b, a, c⟩ => ⟨tr, b, a.same e, c⟩
theorem ab_filter {ts : List Stp} {f : Stp → Bool} (h : StpAB ts) : StpAB (ts.filter f) := fun t ht => h t (List.mem_filter.mp ht).1
theorem fo_of {K : PySem.W.Frag} {C CA CU : Addr} {H H0 : Hp} {a p1 p2 fr X : Addr} {ns : List Int} {m1 m2 : Int} {st1 st2 : List Stp} {ks : List Str} {due : Option Nat} (B : Bas K C H0 a p1 p2 fr ns m1 m2 st1 st2 ks) (d : IsDue (opn st1 ks) (opn st2 ks) m1 m2 due)
    (j : JuA CA H X (opn st1 ks) (opn st2 ks) m1 m2 ∨ JuU CU H X (opn st1 ks) (opn st2 ks) m1 m2) : Fo CA CU H X (opn st1 ks) (opn st2 ks) m1 m2 due := by
  have sub1 : ∀ s ∈ opn st1 ks, OkS m1 s := fun s hs => B.two.ok1 s (List.mem_filter.mp hs).1
  have sub2 : ∀ s ∈ opn st2 ks, OkS m2 s := fun s hs => B.two.ok2 s (List.mem_filter.mp hs).1
  rcases j with ⟨dx, l, ps, ws, h1, h2, q, nd⟩ | ⟨dx, l, ps, ws, n, p, u, x, h1, h2, q, hp, hu, hx, no, lu⟩
  · exact .inl ⟨⟨dx, l, ps, ws, h1, h2, q, nd⟩, whole_due q B.two.low1 B.two.low2 d⟩
  · have t := told_of (ab_filter B.ab1) (ab_filter B.ab2) B.two.low1 B.two.low2 sub1 sub2 q hp hu hx no
    exact .inr ⟨_, _, ⟨dx, l, h1, h2, t, by rw [List.length_append]; show _ + 1 ≤ _; omega⟩, t.due d⟩
theorem MachAt.rowAt {C : Addr} {H : Hp} {p : Addr} {m : Int} {st : List Stp} (M : MachAt C H p m st) (ok : ∀ s ∈ st, OkS m s) (few : st.length < 64) (low : 1 ≤ m) (high : m ≤ 8) : ∃ dx sA fs, H p = some (.ins C dx fs) ∧ fs.lookup ("steps" : Str) = some (.ref sA) ∧ RowAt H sA m st := by
  obtain ⟨dx, sA, kA, wA, bA, dA, hp, B⟩ := M
  obtain ⟨vs, hA, rA⟩ := B.stp
  exact ⟨dx, sA, _, hp, lk_steps, ⟨⟨vs, hA, rA⟩, ok, few, low, high⟩⟩
theorem Two.rows {C : Addr} {H : Hp} {p1 p2 fr : Addr} {m1 m2 : Int} {st1 st2 : List Stp} {ks : List Str} (t : Two C H p1 p2 fr m1 m2 st1 st2 ks) : (∃ dx sA fs, H p1 = some (.ins C dx fs) ∧ fs.lookup ("steps" : Str) = some (.ref sA) ∧ RowAt H sA m1 st1) ∧ (∃ dx sA fs, H p2 = some (.ins C dx fs) ∧ fs.lookup ("steps" : Str) = some (.ref sA) ∧ RowAt H sA m2 st2) :=
  ⟨t.one.rowAt t.ok1 t.few1 t.low1 t.high1, t.other.rowAt t.ok2 t.few2 t.low2 t.high2⟩
def LawS3 (K : PySem.W.Frag) (C CA CU : Addr) (ns : List Int) (σ : L2.St) (H : Hp) : Prop := ∃ (a p1 p2 fr X : Addr) (m1 m2 : Int) (st1 st2 : List Stp) (ks : List Str) (due : Option Nat) (s1 s2 s3 s4 s5 : Option V), σ = [some (.ref a), s1, s2, s3, s4, s5, some (.ref p1), some (.ref p2), some (.ref fr), some (dueV due), some (.ref X), none, none, none, none, none, none, none, none, none, none, none] ∧ Bas K C H a p1 p2 fr ns m1 m2 st1 st2 ks ∧ Fo CA CU H X (opn st1 ks) (opn st2 ks) m1 m2 due
structure TxtSay (P : Program) (w : World) (K : PySem.W.Frag) (mg : Str → Option Value) (base : Heap) (CA CU : Addr) : Prop where
  says : ∀ C b, ((C = CA ∧ b = true) ∨ (C = CU ∧ b = false)) → SaysB P w K mg base C b
  kitA : PySem.W.kitOne K (.ref CA) (.ref CU) = some false
  kitU : PySem.W.kitOne K (.ref CU) (.ref CU) = some true
  tyA : ∀ (H : Hp) (x dx : Addr) (fs : List (Str × V)), H x = some (.ins CA dx fs) → TyX K H (.ref x) (.ref CA)
  tyU : ∀ (H : Hp) (x dx : Addr) (fs : List (Str × V)), H x = some (.ins CU dx fs) → TyX K H (.ref x) (.ref CU)
section
variable {P : Program} {w : World} {K : PySem.W.Frag} {mg : Str → Option Value} {base : Heap} {C CB CO CA CU CS : Addr} {f : Addr} {cdv : Value} {A : Around} {outer : List Env} {s : Shared} {H0 : Hp} {E : XK}
set_option maxHeartbeats 1000000 in
theorem law_B {fF fJ fsA fsU : Addr} {fdF fdJ fdsA fdsU : FuncData} {ns : List Int} (T : TxtLw K mg C CO CA CU CS) (TS : TxtSay P w K mg base CA CU)
    (A_law_first : At1 K mg "_law_first" fF) (G_law_first : FnOk P w K mg base CX0 3 fF fdF ["one", "other", "free"] spFirst) (b_law_first : Binds K fdF ["one", "other", "free"] [])
    (A_judge_alike : At1 K mg "judge_alike" fJ) (G_judge_alike : FnOk P w K mg base (L2.CX P w) 4 fJ fdJ ["one", "other", "free"] (spJudge C CA CU)) (b_judge_alike : Binds K fdJ ["one", "other", "free"] [])
    (M_shows_Alike : Meth K CA "shows" fsA) (G_shows_Alike : FnOk P w K mg base (L2.CX P w) 5 fsA fdsA ["self", "one", "other", "free"] (spAShows C CA)) (b_shows_Alike : Binds K fdsA ["self", "one", "other", "free"] [])
    (M_shows_Unlike : Meth K CU "shows" fsU) (G_shows_Unlike : FnOk P w K mg base (L2.CX P w) 5 fsU fdsU ["self", "one", "other", "free"] (spUShows C CU)) (b_shows_Unlike : Binds K fdsU ["self", "one", "other", "free"] [])
    (hr : Room 8 (lawX P w K mg base f cdv A outer s H0 E).A)
    (rest : ∃ t, PSs (lawX P w K mg base f cdv A outer s H0 E) ((defBody sLaw).drop 6) t ∧ ∀ σ H D, LawS3 K C CA CU ns σ H → (∀ H', D.rt (.bl true) H') → t D σ H) :
    ∃ t, PSs (lawX P w K mg base f cdv A outer s H0 E) ((defBody sLaw).drop 4) t ∧ ∀ σ H D, LawS2 K C ns σ H → (∀ H', D.rt (.bl true) H') → t D σ H := by
  have nd := scLaw.nd
  have hu := hr.units
  have hr_law_first : Room 3 _ := hr.mono (by decide)
  have hr_judge_alike : Room 4 _ := hr.mono (by decide)
  have hr_shows_Alike : Room 5 _ := hr.mono (by decide)
  have hr_shows_Unlike : Room 5 _ := hr.mono (by decide)
  have hr_bool : Room 3 _ := hr.mono (by decide)
  obtain ⟨tR, hR, restR⟩ := rest
  refine ⟨_, (pss_cons (ps_par (i := 9) (j := 10) (by rfl) nd rfl rfl (by decide) rfl rfl (pa_cons (pe_call G_law_first hr_law_first (by rfl) A_law_first.g A_law_first.k b_law_first .nil pass0 (pa_cons (pe_fld (pv 6) rfl) (pa_cons (pe_fld (pv 7) rfl) (pa_cons (pv 8) pa_nil)))) (pa_cons (pe_call G_judge_alike hr_judge_alike (by rfl) A_judge_alike.g A_judge_alike.k b_judge_alike .nil passL (pa_cons (pv 6) (pa_cons (pv 7) (pa_cons (pv 8) pa_nil)))) pa_nil)) (by rfl))
      (pss_cons (ps_if (PW.pt (pw_or (pt_cmpR op_ne (pe_callTy (call_boolOwn TS.says hr_bool pass0) (by rfl) T.bool (by decide +kernel) (pa_cons (pv 10) pa_nil)) (pe_cmpR op_isN (pv 9) pe_non (nomark _)) (nomark _)) (pw_or (pt_not (pt_val (pe_both (pe_meth (pv 10) T.Alike.cl M_shows_Alike G_shows_Alike hr_shows_Alike b_shows_Alike .nil passL (pa_cons (pv 6) (pa_cons (pv 7) (pa_cons (pv 8) pa_nil)))) (pe_meth (pv 10) T.Unlike.cl M_shows_Unlike G_shows_Unlike hr_shows_Unlike b_shows_Unlike .nil passL (pa_cons (pv 6) (pa_cons (pv 7) (pa_cons (pv 8) pa_nil))))))) (pw_or1 (pt_cmpR op_eq (pe_callB call_isi (by rfl) T.isinstance (by decide +kernel) (pa_cons (pv 10) (pa_cons (pe_glob (v := .ref CU) (by rfl) T.Unlike.g rfl) pa_nil))) (pe_cmpR op_isN (pv 9) pe_non (nomark _)) (nomark _))))))
        (pss_one (ps_ret pe_bl))
        pss_nil)
      hR)), ?_⟩
  rintro σ H D ⟨a, p1, p2, fr, m1, m2, st1, st2, ks, s1, s2, s3, s4, s5, rfl, B⟩ k
  obtain ⟨⟨dx1, sA1, fs1, hp1, lk1, R1⟩, ⟨dx2, sA2, fs2, hp2, lk2, R2⟩⟩ := B.two.rows
  refine into ⟨_, rfl, p1, C, dx1, _, _, rfl, hp1, T.Machine.cl, T.n_steps, lk1, _, rfl, p2, C, dx2, _, _, rfl, hp2, T.Machine.cl, T.n_steps, lk2, _, rfl, sA1, sA2, fr, m1, m2, st1, st2, ks, rfl, R1, R2, B.two.free, fun H1 due e1 isd => ?_⟩
  have B1 := B.same e1
  refine ⟨_, rfl, _, rfl, _, rfl, p1, p2, fr, m1, m2, st1, st2, ks, rfl, B1.two, fun H2 X e2 nX ju => ⟨_, _, rfl, ?_⟩⟩
  have B2 := B1.same e2
  have fo := fo_of B2 isd ju
  clear ju isd B1 B hp1 hp2 lk1 lk2 R1 R2
  refine into ?_
  rcases id fo with ⟨⟨dx, l, ps, ws, hX, pa, q, nod⟩, rfl⟩ | ⟨tr, b, ⟨dx, l, hX, hL, td, lt⟩, rfl⟩
  · refine ⟨_, rfl, _, rfl, X, CA, dx, _, true, rfl, hX, .inl ⟨rfl, rfl⟩, _, rfl, rfl, rfl, _, rfl, iteF ?_⟩
    refine .inl ⟨_, rfl, X, dx, _, rfl, hX, aF_none (by decide +kernel), _, rfl, _, rfl, _, rfl, X, dx, l, p1, p2, fr, m1, m2, st1, st2, ks, ps, rfl, B2.two, ab_okW B2.ab1, ab_okW B2.ab2, hX, pa, nod, que_goods q, fun H3 r e3 hr3 => ?_⟩
    have er : r = true := hr3.mpr (whole_shows q)
    subst er
    refine ⟨_, rfl, iteF ?_⟩
    refine ⟨_, rfl, .ref X, .ref CU, _, _, _, rfl, .own CU, TS.tyA _ _ _ _ (e3 _ _ hX), TS.kitA, _, rfl, rfl, rfl, _, rfl, iteF ?_⟩
    exact restR _ _ D ⟨a, p1, p2, fr, X, m1, m2, st1, st2, ks, _, _, _, _, _, _, rfl, B2.same e3, fo.same e3⟩ k
  · refine ⟨_, rfl, _, rfl, X, CU, dx, _, false, rfl, hX, .inr ⟨rfl, rfl⟩, _, rfl, rfl, rfl, _, rfl, iteF ?_⟩
    refine .inr ⟨_, rfl, X, dx, _, rfl, hX, uF_none (by decide +kernel), _, rfl, _, rfl, _, rfl, X, dx, l, p1, p2, fr, m1, m2, st1, st2, ks, tr, b, rfl, B2.two, hX, hL, over_ne td.over, fun H3 r e3 hr3 => ?_⟩
    have er : r = true := hr3.mpr td.shows
    subst er
    refine ⟨_, rfl, iteF ?_⟩
    refine ⟨_, rfl, .ref X, .ref CU, _, _, _, rfl, .own CU, TS.tyU _ _ _ _ (e3 _ _ hX), TS.kitU, _, rfl, rfl, rfl, _, rfl, iteF ?_⟩
    exact restR _ _ D ⟨a, p1, p2, fr, X, m1, m2, st1, st2, ks, _, _, _, _, _, _, rfl, B2.same e3, fo.same e3⟩ k
end
end K1
end
section
/-! Fields as targets, items within blocks, methods called with a list spread out. -/
namespace MX
open PySem PySem.Spec PyProof.Rows L2 PySem.W

/-- o.f as a target -/
def gAtr (K : PySem.W.Frag) (to : TE) (f : PySem.Str) : TG := fun v σ H Q => to σ H fun x H1 => ∃ (a C dx : Addr) (fs : List (PySem.Str × V)), x = .ref a ∧ H1 a = some (.ins C dx fs) ∧ Cls K C ∧ NoAttr K C f ∧ fs.length < 1000 ∧ Q σ (upd H1 a (.ins C dx (putF f v fs)))
section
variable {X : Cx}
theorem pg_atr {o : Expr} {f : PySem.Str} {pos : Pos} {to : TE} (ho : PE X o to) : PG X (.Attribute o f pos) (gAtr X.K to f) := by
  constructor
  intro pins s σ H v u Q I rv h
  show wpAny _ _ (do
    let ov ← holding [u] (eval o X.env)
    standAt pos.atName
    holding [u, ov] (setAttr ov f u)
    release [u, ov] []) _ _ s
  refine wpAny_bind (wpAny_holding (thn (ho.run pins s σ H _ I h) fun r s1 ⟨x, H1, I1, rx, a, C, dx, fs, ex, ea, c, n, l, q⟩ => wpAny_bind (wpAny_standAt (wpAny_bind (wpAny_holding ?_)))))
  subst ex
  cases rx
  exact setattr_ok I1 ea c n l rv fun s2 I2 => wpAny_release ⟨σ, _, I2, q⟩
theorem pe_getNK {P : Program} {w : World} {d i : Expr} {td ty : TE} {pos : Pos} (hP : X.prog = P) (hw : X.w = w) (hd : PE X d td) (hi : PE X i ty) (one : NoSl i) : PE X (.Subscript d i pos) (tGetN P w td ty) := by
  subst hP hw
  exact pe_getN hd hi one
/-- o.m(*e) -/
def tMethS (K : PySem.W.Frag) (C : Addr) (m : PySem.Str) (g : Addr) (sp : Sp) (E : XK) (to te : TE) : TE := fun σ H Q => to σ H fun x H1 => ∃ (a dx : Addr) (fs : List (PySem.Str × V)), x = .ref a ∧ H1 a = some (.ins C dx fs) ∧ fs.lookup m = none ∧
  ∀ b, H1 b = none → te σ (upd H1 b (.met g a)) fun y H2 => ∃ (t : Addr) (vs : List V), y = .ref t ∧ (SqT K H2 t vs ∨ SqL K H2 t vs) ∧ H2 b = some (.met g a) ∧ sp (.ref a :: vs) H2 Q E
theorem call_spread {M : Model} {A : Around} {E : Value → Shared → Prop} {s : Shared} {env : Env} {o e : Expr} {m : PySem.Str} {p apos pos : Pos} {Q : Value → Shared → Prop} (plain : attributeBase o m env (eval o env) = eval o env) (star : starEach [.Starred e p] env = [(true, eval e env)])
    (go : wpAny M A (eval o env) (fun ov s1 => wpAny M A (getAttr ov m true) (fun f s2 => wpAny M A (callWith pos f [] (backTo pos [(true, eval e env)]) []) Q E s2) E s1) E s) : wpAny M A (eval (.Call (.Attribute o m apos) [.Starred e p] [] pos) env) Q E s := by
  rw [arm_eval_Call, plain, star, show backToKw pos (keywordEach [] env) = [] from rfl]
  refine wpAny_bind (wpAny_mono go (fun ov s1 h1 => wpAny_bind (wpAny_standAt ?_)) fun _ _ x => x)
  unfold methodCall
  rw [show methodCallForm ([Expr.Starred e p].length + ([] : List Keyword).length) (backTo pos [(true, eval e env)]) [] = false from rfl, show methodCallPos false o env apos pos = pure pos from rfl,
    show calleeOf false o env ov m = (getAttr ov m true >>= fun v => pure (v, [])) from rfl]
  exact wpAny_bind (wpAny_holding (wpAny_bind (wpAny_mono h1 (fun f s2 h2 => wpAny_pure (wpAny_bind (wpAny_pure h2))) fun _ _ x => x)))
theorem pe_methS {CX : CXT} {k : Nat} {C g : Addr} {m : PySem.Str} {sp : Sp} {E : XK} {o e : Expr} {to te : TE} {p apos pos : Pos} (ho : PE X o to) (c : Cls X.K C) (b : BMeth X.K C m g) (F : FnR X.prog X.w X.K X.mg X.base CX k g sp) (hr : Room k X.A) (hx : Passes CX X E) (he : PE X e te)
    (plain : attributeBase o m X.env (eval o X.env) = eval o X.env := by rfl) (star : starEach [.Starred e p] X.env = [(true, eval e X.env)] := by rfl) : PE X (.Call (.Attribute o m apos) [.Starred e p] [] pos) (tMethS X.K C m g sp E to te) := by
  constructor
  intro pins s σ H Q I h
  refine call_spread plain star (thn (ho.run pins s σ H _ I h) fun r1 s1 ⟨x, H1, I1, rx, a, dx, fs, ex, ea, no, h1⟩ => ?_)
  subst ex
  cases rx
  refine getbound_ok I1 ea c b no fun q1 s2 free I2 => ?_
  refine ks_call (P := MethP X.K q1 g (.ref a)) rfl (keeps_M b.fi) (ks_lone (thn (he.run pins s2 σ _ _ I2 (h1 q1 free)) fun r2 s3 ⟨y, H2, I3, ry, t, vs, ey, at_, met, run⟩ => ?_))
  subst ey
  cases ry
  refine StX.star_any I3 at_ fun us s4 I4 rv => ?_
  have here := met_P I4 met
  exact ⟨here, wpAny_call (method_call here.1 (run_fnR (us := Value.ref a :: us) (vs := V.ref a :: vs) F hr hx I4 (.cons rfl rv) run))⟩
/-- behind the block, kept under a name -/
theorem block_named {pins : List (Addr × Obj)} {σ : L2.St} {H : Hp} {s : Shared} {E : Ends} {D C : Addr} {m : PySem.Str → Option Value} {i : Nat} {y : PySem.Str} {py : Pos} (hN : X.N.Nodup) (hy : X.N[i]? = some y) (loc : X.env.scope.names.lookup y = some .local) (I : L2.Inv X pins σ H s) (q : E.nx (σ.set i (some (.ref D))) H)
    (ns : s.heap.Ns C m) (f : FpOk X pins H C) : compPost (model X.prog X.w) X.A X.xe (some (assign (.Name y py) X.env)) (fun _ s' => L2.SP X pins E .next s') (.ref D) C (.ok .next) s := by
  obtain ⟨none_, here, frame, young, cells, pinned⟩ := f
  refine wpAny_assign_Name (store_ok2 (v := V.ref D) I hN hy (.inl loc) rfl (fun s2 I2 ⟨a, sb, which⟩ => ⟨m, ns.sameBut sb (fun e => ?_), fun h3 sb3 => ⟨_, H, I2.turned (t' := s2.toks) (fun b o ne z => (sb3.2 b ne).trans z) none_ here young cells pinned, q⟩⟩) (.inr loc))
  rcases which with z | z
  · exact here (e.trans z)
  · exact cells y a z e.symm
theorem ps_setDcN {i : Nat} {y : PySem.Str} {py : Pos} {kx vx tg iter : Expr} {ifs : List Expr} {scope : Scope} {own : List (PySem.Str × Nat)} {pos spos : Pos} {wi : TI} {g : TG} {tt : TT} {tk tv : TE} (hc : X.calm = true) (hN : X.N.Nodup) (hy : X.N[i]? = some y) (loc : X.env.scope.names.lookup y = some .local)
    (sw : swapsWith (.DictComp kx vx [⟨tg, iter, ifs, 0⟩] scope pos) (some (.Name y py)) spos.line X.env = pure true) (hi : PI X tg iter wi) (ok : BlkOk X.N X.env.scope scope own)
    (hg : ∀ (s : Shared) (H : Hp) (C : Addr) (cl : List (PySem.Str × Addr)) (fp : List Addr), PG (X.blk s H scope (compEnvC scope cl C X.env) fp) tg g) (ht : ∀ (s : Shared) (H : Hp) (C : Addr) (cl : List (PySem.Str × Addr)) (fp : List Addr), PTs (X.blk s H scope (compEnvC scope cl C X.env) fp) ifs tt)
    (hk : ∀ (s : Shared) (H : Hp) (C : Addr) (cl : List (PySem.Str × Addr)) (fp : List Addr), PE (X.blk s H scope (compEnvC scope cl C X.env) fp) kx tk)
    (he : ∀ (s : Shared) (H : Hp) (C : Addr) (cl : List (PySem.Str × Addr)) (fp : List Addr), PE (X.blk s H scope (compEnvC scope cl C X.env) fp) vx tv) (hs : ∀ x, foldedSetIterable iter X.env x = pure x := by intro _; rfl) :
    PS X (.Assign [.Name y py] (.DictComp kx vx [⟨tg, iter, ifs, 0⟩] scope pos) spos) (tAsg (tDcN X.prog X.w wi g tt tk tv (own.map (·.2))) (gName i)) := by
  constructor
  intro pins s σ H E I h
  rw [exec_Assign_Name_used _ _ _ _ sw]
  refine wpAny_bind (wpAny_standAt (wpAny_bind ?_))
  have h : tDcN X.prog X.w wi g tt tk tv (own.map (·.2)) σ H (fun x H1 => gName i x σ H1 E.nx) := h
  refine wpAny_bind (thn (gather (use := some (assign (.Name y py) X.env)) (Qf := fun _ s' => L2.SP X pins E .next s') (o0 := { cls := .type "dict", data := .dict #[] }) hc hN I hi ok rfl (fun s Q q => wpAny_newObj_type q) (fun s H I' => new_dictN s.heap I'.big) hg ht ?_
    (fun it acc ce R s4 a b => codeAny_compStart_dict a b) hs h fun D C s' m H' I' q ns f => block_named hN hy loc I' q ns f) fun _ s' q => wpAny_pure (wpAny_pure q))
  intro s3 H3 C cl fp it D Iv R turns n s4 i4
  refine compLoop_anyD Iv (fun n s5 i5 => thnF (turns n s5 i5) fun r s6 h6 => ?_) n i4
  cases r with
  | none => exact h6
  | some v =>
    refine thnF h6 fun _ s7 h7 => thnF h7 fun _ s8 h8 => thnF h8 fun b s9 ⟨pl, σ9, H9, Nx, I9, q9, next⟩ => ?_
    cases b with
    | false => exact next s9 H9 I9 q9
    | true =>
      refine thnF ((hk s3 H3 C cl fp).run pl s9 σ9 H9 _ I9 q9) fun z s10 ⟨y, H10, I10, r10, q10⟩ => ?_
      refine thnF ((he s3 H3 C cl fp).run pl s10 σ9 H10 _ I10 q10) fun z2 s11 ⟨y2, H11, I11, r11, kvs, k, ey, atD, room, nx⟩ => ?_
      subst ey
      exact dn_put (X := X.blk s3 H3 scope (compEnvC scope cl C X.env) fp) I11 atD room r10 r11 fun s12 I12 => next s12 _ I12 nx
theorem sw_dict {kx vx : Expr} {gs : List Comprehension} {scope : Scope} {pos py : Pos} {y : PySem.Str} {l : Nat} {env : Env} (fn : env.scope.kind = .function) (loc : env.scope.names.lookup y = some .local) (row : (py.line == pos.line) = true)
    (own : (scope.names.any fun (n, k) => n == y && (k == .local || k == .cell)) = false) : swapsWith (.DictComp kx vx gs scope pos) (some (.Name y py)) l env = pure true := by
  have kind : env.kindOf y = some .local := loc
  have block : env.blockKind = .function := by
    unfold Env.blockKind
    rw [fn]; rfl
  unfold swapsWith
  simp only [block, kind, own, Expr.pos, row]
  rfl
/-- what is let out behind a new tuple is let out ahead of it -/
theorem cxNew {P : Program} {w : World} : CXNew (L2.CX P w) := by
  intro outer s H h2 p rest E e s' keep big free ⟨a, B, H', cls, d, e1, fly, hok, ub, na, os, ab, wish⟩
  have at_ : ∀ {b o}, s.heap.get? b = some o → H b = none → upd H p (.tup rest) b = none := fun {b o} hb hH => by
    have lt := Heap.lt_size hb
    have ne : b ≠ p := fun e => by rw [e] at lt; exact Nat.lt_irrefl _ (Nat.lt_of_lt_of_le lt big)
    rw [upd_ne ne]
    exact hH
  have there : ∀ {b : Addr} {o : HO}, H b = some o → upd H p (.tup rest) b = some o := fun {b o} z => by rw [upd_ne (ne_of_none z free)]; exact z
  exact ⟨a, B, H', cls, d, e1, fly, hok, ⟨fun b o hb hH nf => ub.keep b o (keep b o hb) (at_ hb hH) nf, fun b o hb m => ub.slot b o (keep b o hb) m, fun b o hb hH => ub.free b o (keep b o hb) (at_ hb hH), fun b o hb nf => ub.there b o (keep b o hb) nf,
    fun b xs z => ub.tups b xs (there z), fun b o xs z => ub.frzs b o xs (there z), fun b ps z => ub.tbls b ps (there z)⟩, na, os, ab, wish⟩
/-- a promise told by positions, run where errors are taken -/
theorem run_pos {CX : CXT} {k : Nat} {f : Addr} {sp : Sp} {Es : L2.St → XK} {Q : VK} {us : List Value} {vs : List V} {pins : List (Addr × Obj)} {σ : L2.St} {H : Hp} {s : Shared} (F : FnR X.prog X.w X.K X.mg X.base CX k f sp) (hr : Room k X.A) (hx : ∀ σ, PassesAt CX X σ (Es σ)) (I : L2.Inv X pins σ H s) (r : Vals vs us) (h : sp vs H Q (Es σ)) :
    codeAny (model X.prog X.w) X.A (.call (.ref f) ⟨us, []⟩) (fun r s' => match r with | .ok (.ret v) => EP X pins σ Q v s' | .ok _ => False | .error e => X.xe e s') s := by
  refine codeAny_mono (F X.A X.stack s H us vs Q _ hr I.env0 r h) fun out s' ho => ?_
  match out, ho with
  | .error e, ho => exact hx σ pins H s e s' I ho
  | .ok (.ret u), ho => exact I.after ho
  | .ok .next, ho => exact False.elim ho
  | .ok .brk, ho => exact False.elim ho
  | .ok .cont, ho => exact False.elim ho
def tMethP (C : Addr) (m : PySem.Str) (sp : Sp) (Es : L2.St → XK) (ta : TE) (t : TA) : TE := fun σ H Q => tMethR C m sp (Es σ) ta t σ H Q
theorem pe_methP {CX : CXT} {k : Nat} {C f : Addr} {m : PySem.Str} {sp : Sp} {Es : L2.St → XK} {o e : Expr} {es : List Expr} {ta : TE} {t : TA} {apos pos : Pos} {pl : Sem Bool} (ho : PE X o ta) (c : Cls X.K C) (hm : Meth X.K C m f) (F : FnR X.prog X.w X.K X.mg X.base CX k f sp) (hr : Room k X.A) (hx : ∀ σ, PassesAt CX X σ (Es σ)) (ha : PA X (e :: es) t)
    (first : starEach (e :: es) X.env = (false, eval e X.env) :: starEach es X.env := by rfl) (nost : (backTo pos (starEach es X.env)).any (·.1) = false := by rfl)
    (text : eval (.Call (.Attribute o m apos) (e :: es) [] pos) X.env = (do
      let ov ← eval o X.env
      standAt apos.atName
      let (f, first) ← holding [ov] (getMethod ov m pl)
      callWith pos f first (backTo pos (starEach (e :: es) X.env)) (backToKw pos (keywordEach [] X.env))) := by rfl) :
    PE X (.Call (.Attribute o m apos) (e :: es) [] pos) (tMethP C m sp Es ta t) := by
  constructor
  intro pins s σ H Q I h
  refine methodCall_KW (pl := pl) (thn (ho.run pins s σ H _ I h) fun r1 s1 ⟨y, H1, I1, rel, a, dx, fs, ey, at_, none_, q⟩ => ?_) text
  subst ey
  cases rel
  refine getmeth_ok I1 at_ c hm none_ (callWith_K (first := [Value.ref a]) (h₀ := X.base) I.ok.mod.kin hm.kp (thn (ha.run pos pins s1 σ H1 _ I1 q) fun us s2 ⟨vs, H2, I2, r, q2⟩ => ⟨I2.kIn, ?_⟩) first nost)
  exact wpAny_call (run_pos (us := Value.ref a :: us) (vs := V.ref a :: vs) F hr hx I2 (.cons (show L2.RelV (V.ref a) (Value.ref a) from rfl) r) q2)
def tMethSP (K : PySem.W.Frag) (C : Addr) (m : PySem.Str) (g : Addr) (sp : Sp) (Es : L2.St → XK) (to te : TE) : TE := fun σ H Q => tMethS K C m g sp (Es σ) to te σ H Q
theorem pe_methSP {CX : CXT} {k : Nat} {C g : Addr} {m : PySem.Str} {sp : Sp} {Es : L2.St → XK} {o e : Expr} {to te : TE} {p apos pos : Pos} (ho : PE X o to) (c : Cls X.K C) (b : BMeth X.K C m g) (F : FnR X.prog X.w X.K X.mg X.base CX k g sp) (hr : Room k X.A) (hx : ∀ σ, PassesAt CX X σ (Es σ)) (he : PE X e te)
    (plain : attributeBase o m X.env (eval o X.env) = eval o X.env := by rfl) (star : starEach [.Starred e p] X.env = [(true, eval e X.env)] := by rfl) : PE X (.Call (.Attribute o m apos) [.Starred e p] [] pos) (tMethSP X.K C m g sp Es to te) := by
  constructor
  intro pins s σ H Q I h
  refine call_spread plain star (thn (ho.run pins s σ H _ I h) fun r1 s1 ⟨x, H1, I1, rx, a, dx, fs, ex, ea, no, h1⟩ => ?_)
  subst ex
  cases rx
  refine getbound_ok I1 ea c b no fun q1 s2 free I2 => ?_
  refine ks_call (P := MethP X.K q1 g (.ref a)) rfl (keeps_M b.fi) (ks_lone (thn (he.run pins s2 σ _ _ I2 (h1 q1 free)) fun r2 s3 ⟨y, H2, I3, ry, t, vs, ey, at_, met, run⟩ => ?_))
  subst ey
  cases ry
  refine StX.star_any I3 at_ fun us s4 I4 rv => ?_
  have here := met_P I4 met
  exact ⟨here, wpAny_call (method_call here.1 (run_pos (us := Value.ref a :: us) (vs := V.ref a :: vs) F hr hx I4 (.cons rfl rv) run))⟩
end
end MX
end
section
/-! list(o) of an instance whose __iter__ gives an iterator of a list, and which has a length. -/
namespace MX
open PySem PySem.Spec PyProof.Rows L2 PySem.W
section
variable {X : Cx} {pins : List (Addr × Obj)} {σ : L2.St} {H : Hp} {s : Shared} {A : Around} {it l q : Addr} {zs : List V}
theorem it_type {i : Nat} (I : L2.Inv X pins σ H s) (hi : H it = some (ItO l it i)) : s.TypeIs (.ref it) "list_iterator" := ⟨_, itO_get I hi, rfl⟩
theorem it_item {i : Nat} {z : V} {E : Value → Shared → Prop} {Q : Option Value → Shared → Prop} (I : L2.Inv X pins σ H s) (hi : H it = some (ItO l it i)) (hl : H l = some (.lst zs)) (hz : zs[i]? = some z)
    (go : ∀ u s', RelV z u → L2.Inv X pins σ (upd H it (ItO l it (i + 1))) s' → Q (some u) s') : wpAny (model X.prog X.w) A (pyNext (.ref it)) Q E s := by
  obtain ⟨its, rv, pl, _⟩ := I.list (SqL.of hl)
  obtain ⟨u, hu, ru⟩ := rv.get hz
  unfold pyNext
  refine wpAny_bind (wpAny_attempt (wpAny_callSpecial?_slot (name := PySem.Str.ofString "__next__") (it_type I hi) slot_listiter_next (wpAny_call_entry slot_listiter_next (it_type I hi) entry_listiter_next ?_ (args_listiter_next _))))
  refine wpAny_mono (GNX.next_item (Q := fun v s' => v = u ∧ ∃ h', s' = { s with heap := h' } ∧ h'.get? it = some (GNX.itObj l (i + 1)) ∧ Heap.SameBut it s.heap h') (itO_get I hi) pl.isList (by rw [List.getElem?_toArray]; exact hu) fun h' e' sb => ⟨rfl, h', rfl, e', sb⟩) (fun fin s' ⟨v, ef, ev, h', es, e', sb⟩ => ?_) fun _ _ z => z
  subst ev es
  exact ⟨v, ef, wpAny_pure (go v _ ru (I.write (x := it) (e := it) (t' := s.toks) (by rw [hi]; exact True.intro) (.inl rfl) (fun b o nb z => (sb.2 b nb).trans z) ⟨_, e'⟩ (itO_ok e')))⟩
theorem it_end {i : Nat} {E : Value → Shared → Prop} {Q : Option Value → Shared → Prop} (calm : A.handled = none) (I : L2.Inv X pins σ H s) (hi : H it = some (ItO l it i)) (hl : H l = some (.lst zs)) (hz : zs[i]? = none)
    (go : ∀ s', L2.Inv X pins σ (upd H it (ItE it i)) s' → Q none s') : wpAny (model X.prog X.w) A (pyNext (.ref it)) Q E s := by
  obtain ⟨its, rv, pl, _⟩ := I.list (SqL.of hl)
  unfold pyNext
  refine wpAny_bind (wpAny_attempt (wpAny_callSpecial?_slot (name := PySem.Str.ofString "__next__") (it_type I hi) slot_listiter_next (wpAny_call_entry slot_listiter_next (it_type I hi) entry_listiter_next ?_ (args_listiter_next _))))
  refine wpAny_mono (GNX.next_end (Q := fun _ _ => False) (E := fun e s' => ∃ h1 h' a vs, e = .ref a ∧ s' = { s with heap := h' } ∧ h1.get? it = some (GNX.itEnd i) ∧ Heap.SameBut it s.heap h1 ∧ (∀ b o, h1.get? b = some o → h'.get? b = some o) ∧ h'.get? a = some { cls := .type "StopIteration", data := .fields vs })
    calm (itO_get I hi) pl.isList (by rw [List.getElem?_toArray]; exact rv.none_of hz) fun h1 h' a vs e1 sb k _ ha _ => ⟨h1, h', a, vs, rfl, rfl, e1, sb, k, ha⟩) (fun fin s' ⟨v, _, no⟩ => no.elim) fun e s' ⟨h1, h', a, vs, ee, es, e1, sb, k, ha⟩ => ?_
  subst ee es
  refine wpAny_bind (wpAny_isInstance (T := "StopIteration") (b := true) ⟨_, ha, rfl⟩ isSubtype_stop (wpAny_pure (go _ ?_)))
  have J : L2.Inv X pins σ (upd H it (ItE it i)) { s with heap := h1 } := I.write (x := it) (e := it) (t' := s.toks) (by rw [hi]; exact True.intro) (.inl rfl) (fun b o nb z => (sb.2 b nb).trans z) ⟨_, e1⟩ (itE_ok e1)
  exact J.kept (t' := s.toks) fun b o z => k b o z
/-- the list at q is filled -/
theorem fill_it {R : Result → Shared → Prop} (calm : A.in1.handled = none) (ne : q ≠ it) (nl : q ≠ l) (nil : it ≠ l) (small : zs.length < sizeLine) : ∀ (n i : Nat) (H : Hp) (s : Shared), zs.length - i = n → i ≤ zs.length → L2.Inv X pins σ H s → H it = some (ItO l it i) → H l = some (.lst zs) → H q = some (.lst (zs.take i)) →
    (∀ s' H', L2.Inv X pins σ H' s' → H' q = some (.lst zs) → (∀ b, b ≠ q → b ≠ it → H' b = H b) → R (.ok (.ret .none)) s') → codeAny (model X.prog X.w) A (.builtin "list.extend.loop" ⟨[.ref q, .ref it, .none], []⟩) R s := by
  intro n
  induction n with
  | zero =>
    intro i H s en le I hi hl hq done
    obtain rfl : i = zs.length := by omega
    refine codeAny_builtin F.entry_extend_loop ?_
    rw [Around.under_plainId F.plain_extend_loop _]
    refine wpAny_bind (it_end calm I hi hl (List.getElem?_eq_none (Nat.le_refl _)) fun s' J => wpAny_pure (done s' _ J ?_ fun b b1 b2 => upd_ne b2))
    rw [upd_ne ne, hq, List.take_length]
  | succ n ih =>
    intro i H s en le I hi hl hq done
    have lt : i < zs.length := by omega
    refine codeAny_builtin F.entry_extend_loop ?_
    rw [Around.under_plainId F.plain_extend_loop _]
    refine wpAny_bind (it_item I hi hl (List.getElem?_eq_getElem lt) fun u s' ru J => ?_)
    have hq' : upd H it (ItO l it (i + 1)) q = some (.lst (zs.take i)) := by rw [upd_ne ne]; exact hq
    obtain ⟨z, its, k, rv, hlen, e⟩ := J.lstM hq'
    have few : (zs.take i).length ≤ zs.length := List.length_take_le' ..
    refine wpAny_bind (wpAny_updateSeq e rfl (wpAny_pure ⟨plainId_quiet F.plain_extend_loop _, ?_⟩) (by rw [List.size_toArray]; omega) (by rw [Array.size_push, List.size_toArray]; omega))
    have more : zs.take (i + 1) = zs.take i ++ [zs[i]] := by rw [List.take_add_one, List.getElem?_eq_getElem lt]; rfl
    refine ih (i + 1) _ _ (by omega) lt (J.lset (its' := its ++ [u]) (ys := zs.take (i + 1)) (t' := s'.toks) hq' e (by simp) (by rw [more]; exact rv.append (.cons ru .nil)) (by rw [List.length_take]; omega)) ?_ ?_ upd_same fun s2 H2 J2 h2 rest => done s2 H2 J2 h2 fun b b1 b2 => ?_
    · rw [upd_ne (Ne.symm ne), upd_same]
    · rw [upd_ne (Ne.symm nl), upd_ne (Ne.symm nil)]; exact hl
    · rw [rest b b1 b2, upd_ne b1, upd_ne b2]
end
/-- o.__iter__ and o.__len__ are the class's own -/
structure ItL (K : PySem.W.Frag) (C fi fl : Addr) : Prop where
  it : findIn K (.ref C) "__iter__" = some (some (.ref fi))
  itF : isFn K (.ref fi) = true
  len : findIn K (.ref C) "__len__" = some (some (.ref fl))
  lenF : isFn K (.ref fl) = true
def rListIt (C : Addr) (spI spL : Sp) : List V → Hp → VK → Prop := fun xs H Q => ∃ (a dx : Addr) (fs : List (PySem.Str × V)), xs = [V.ref a] ∧ H a = some (.ins C dx fs) ∧ ∀ q, H q = none →
  spI [.ref a] (upd H q (.lst [])) (fun v H1 => ∃ (it l : Addr) (zs : List V), v = .ref it ∧ H1 it = some (ItO l it 0) ∧ H1 l = some (.lst zs) ∧ H1 q = some (.lst []) ∧ H1 a = some (.ins C dx fs) ∧ l ≠ q ∧ zs.length < sizeLine ∧
    spL [.ref a] H1 (fun v2 H2 => ∃ m : Int, v2 = .int m ∧ 0 ≤ m ∧ m ≤ 1000000 ∧ H2 = H1 ∧ ∀ H3, H3 q = some (.lst zs) → (∀ b, b ≠ q → b ≠ it → H3 b = H1 b) → Q (.ref q) H3) E0) E0
section
variable {X : Cx} {pins : List (Addr × Obj)} {σ : L2.St} {H : Hp} {s : Shared} {A : Around} {C fi fl : Addr} {n : Nat} {fdI fdL : FuncData} {psI psL : List PySem.Str} {spI spL : Sp}
/-- an own function that lets nothing out, called from within a built-in one -/
theorem run_never {k : Nat} {f : Addr} {fd : FuncData} {ps : List PySem.Str} {sp : Sp} {us : List Value} {vs : List V} {Q : VK} {E : Value → Shared → Prop} (sb : L2.Sub X k A) (F : FnOk X.prog X.w X.K X.mg X.base CX0 k f fd ps sp) (hb : Binds X.K fd ps []) (I : L2.Inv X pins σ H s) (r : Vals vs us) (h : sp vs H Q E0) :
    wpAny (model X.prog X.w) A (call (.ref f) us) (EP X pins σ Q) E s := by
  have env : Env0 X.prog X.w X.K X.mg X.base A X.stack s H := { I.env0 with frames := sb.fr.trans I.env0.frames }
  have bound := hb s us I.kIn (by rw [List.append_nil, ← r.length]; exact F.len vs H Q E0 h)
  rw [List.append_nil] at bound
  refine wpAny_call (codeAny_mono (F.run A X.stack s H ⟨us, []⟩ us vs Q E0 sb.room env bound r h) fun res s' z => ?_)
  match res, z with
  | .error e, z => exact False.elim z
  | .ok (.ret u), z => exact I.after z
/-- the model asks for the length first -/
theorem len_asked {a dx : Addr} {fs : List (PySem.Str × V)} {Q : Hp → Prop} {R : Bool → Shared → Prop} {E : Value → Shared → Prop} (c : ItL X.K C fi fl) (FL : FnOk X.prog X.w X.K X.mg X.base CX0 n fl fdL psL spL) (bL : Binds X.K fdL psL []) (sb : L2.Sub X n A.in1) (I : L2.Inv X pins σ H s) (ha : H a = some (.ins C dx fs))
    (run : spL [.ref a] H (fun v H2 => ∃ m : Int, v = .int m ∧ 0 ≤ m ∧ m ≤ 1000000 ∧ Q H2) E0) (go : ∀ b H2 s2, L2.Inv X pins σ H2 s2 → Q H2 → R b s2) : wpAny (model X.prog X.w) A (Builtin.List.listLengthHint (.ref a)) R E s := by
  obtain ⟨o, od, at_⟩ := inst_at I ha
  unfold Builtin.List.listLengthHint
  refine wpAny_bind (wpAny_bind (at_.type.here ((looks_findIn I.kIn c.len).here ?_)))
  refine PySem.W.KFB.if_not rfl ?_
  refine wp_if_pos rfl ?_
  refine wpAny_bind (wpAny_rule (wpAny_bind (wpAny_attempt ?_)))
  refine Calls.call_function_entry kind_len plain_len entry_len (args_len1 (.ref a)) ?_
  unfold Builtin.«len»
  refine wpAny_bind (m := oneArg "len" ⟨[Value.ref a], []⟩) (wpAny_pure ?_)
  refine wpAny_bind (m := callSpecial? (Value.ref a) "__len__") (special_fn I.kIn at_ c.len (beq_iff_eq.mp c.lenF) ?_)
  refine wpAny_mono (run_never sb FL bL I (.cons (show L2.RelV (V.ref a) (Value.ref a) from rfl) .nil) run) (fun v s1 ⟨y, H1, I1, rel, m, ey, low, high, q⟩ => ?_) fun _ _ z => z
  subst ey
  obtain ⟨t, rfl⟩ := rel
  refine wpAny_bind (wpAny_holding (wpAny_pure (wpAny_bind (wpAny_letGo ?_))))
  refine wp_if_neg (by omega) ?_
  try refine wpAny_bind (wpAny_pure ?_)
  refine wp_if_neg (by omega) ?_
  try refine wpAny_bind (wpAny_pure ?_)
  unfold retInt
  refine wpAny_bind (wpAny_mkInt (wpAny_pure ⟨_, rfl, ?_⟩))
  refine wpAny_bind (wpAny_pure ?_)
  refine wp_if_neg (by unfold Builtin.List.listTooLong; rw [sizeLine_eq]; simp; omega) ?_
  exact wpAny_pure (go _ H1 _ (I1.tok _) q)
theorem call_listIt (calm : X.calm = true) (c : ItL X.K C fi fl) (FI : FnOk X.prog X.w X.K X.mg X.base CX0 n fi fdI psI spI) (bI : Binds X.K fdI psI []) (FL : FnOk X.prog X.w X.K X.mg X.base CX0 n fl fdL psL spL) (bL : Binds X.K fdL psL []) (hr : Room (n + 3) X.A) :
    CallR X (.type "list") (rListIt C spI spL) := by
  intro pins s σ H xs us Q I r h
  obtain ⟨a, dx, fs, rfl, ha, run⟩ := h
  rw [Vals.ref1 r]
  have sub2 : L2.Sub X (n + 1) X.A.in1.in1 := L2.Sub.in1 (L2.Sub.in1 (⟨hr, rfl⟩ : L2.Sub X (n + 3) X.A))
  have sub3 : L2.Sub X n X.A.in1.in1.in1 := L2.Sub.in1 sub2
  refine callType_codes (Q₁ := fun o s1 => o = .ref s.heap.objs.size ∧ s1 = { s with heap := s.heap.push { cls := .type "list", data := .seq #[] } }) F.called_list (F.typeCall_list_1 _) F.entry_list_init (code_list_new _ ⟨rfl, rfl⟩) fun o s1 ⟨eo, es⟩ => ?_
  subst eo es
  have free := I.hok.fresh (Nat.le_refl s.heap.objs.size)
  have at0 : (s.heap.push { cls := .type "list", data := .seq #[] }).get? s.heap.objs.size = some { cls := .type "list", data := .seq #[] } := Heap.get?_push_size _ rfl
  refine ⟨⟨_, at0, rfl⟩, F.args_list_init_2 _ _, ?_⟩
  have I1 : L2.Inv X pins σ (upd H s.heap.objs.size (.lst [])) { s with heap := s.heap.push { cls := .type "list", data := .seq #[] } } := I.lnew (its := []) (t' := s.toks) .nil (Nat.zero_le _)
  have run := run _ free
  generalize s.heap.objs.size = q at at0 I1 run free ⊢
  show wpAny _ _ (do
    let was ← Builtin.List.listItems (.ref q)
    Builtin.List.listUpdate (.ref q) (fun _ => #[])
    letGo was.toList.reverse
    Builtin.List.listExtendWith (.ref q) (.ref a) .none) _ _ _
  unfold Builtin.List.listItems
  refine wpAny_bind (wpAny_bind (wpAny_seqItems at0 rfl (wpAny_pure ?_)))
  refine wpAny_bind (wpAny_updateSeq at0 rfl ?_)
  have I2 := I1.lset (f := fun _ => #[]) (its := []) (its' := []) (ys := []) (t' := s.toks) upd_same at0 rfl .nil (Nat.zero_le _)
  rw [upd_upd] at I2
  refine wpAny_bind (wpAny_letGo ?_)
  have qa : q ≠ a := fun z => by rw [← z, free] at ha; exact nomatch ha
  have ha2 : upd H q (.lst []) a = some (.ins C dx fs) := (upd_ne (Ne.symm qa)).trans ha
  have bl : Builtin.List.listSameRef (.ref q) (.ref a) = false := beq_eq_false_iff_ne.mpr qa
  obtain ⟨o, od, at_⟩ := inst_at I2 ha2
  obtain ⟨hm, fr⟩ := I2.fr
  unfold Builtin.List.listExtendWith
  refine wpAny_bind (at_.type.here ?_)
  rw [bl]
  refine wp_if_neg (by rw [show (Value.ref C == Value.type "list") = false from rfl, show (Value.ref C == Value.type "tuple") = false from rfl]; decide) ?_
  refine wpAny_bind (PySem.W.owit_iter fr I2.ok.mod.kin at_ c.it c.itF (wpAny_mono (run_never (sub2.mono (by omega)) FI bI I2 (.cons (show L2.RelV (V.ref a) (Value.ref a) from rfl) .nil) run) (fun v s1 ⟨y, H1, I3, rel, it, l, zs, ey, hit, hl, hq1, ha1, lq, few, runL⟩ => ?_) fun _ _ z => False.elim z))
  subst ey
  cases rel
  have hh : X.A.handled = none := I.ok.hd calm
  refine wpAny_specialOf (it_type I3 hit) slot_listiter_next.lookup ?_
  refine wpAny_bind (wpAny_holding (len_asked c FL bL sub3 I3 ha1 (Q := fun H2 => H2 = H1 ∧ ∀ H3, H3 q = some (.lst zs) → (∀ b, b ≠ q → b ≠ it → H3 b = H1 b) → Q (.ref q) H3) ?_ fun more H2 s2 I4 ⟨e4, fin⟩ => ?_))
  · exact runL
  subst e4
  have qit : q ≠ it := fun z => by rw [z, hit] at hq1; exact nomatch hq1
  have itl : it ≠ l := fun z => by rw [z, hl] at hit; exact nomatch hit
  have out : ∀ s3, L2.Inv X pins σ H2 s3 → codeAny (model X.prog X.w) X.A.in1 (.builtin "list.extend.loop" ⟨[.ref q, .ref it, .none], []⟩) (wants (fun r s₂ => r = .none ∧ EP X pins σ Q (.ref q) s₂) X.xe) s3 := fun s3 J =>
    fill_it (show X.A.in1.in1.handled = none from hh) qit (Ne.symm lq) itl few zs.length 0 H2 s3 (by omega) (Nat.zero_le _) J hit hl hq1 fun s' H' J' hq' rest => ⟨rfl, .ref q, H', J', rfl, fin H' hq' rest⟩
  refine wpAny_ite_split (fun _ => ?_) fun _ => wpAny_pure ⟨plainId_quiet F.plain_extend_loop _, out _ I4⟩
  refine wpAny_bind (wpAny_rule (wpAny_bind ?_))
  unfold Builtin.List.listTouch
  obtain ⟨z0, its0, k0, rv0, e0, at1⟩ := I4.lstM hq1
  cases rv0
  refine wpAny_bind (wpAny_updateSeq at1 rfl ?_)
  have I5 := I4.lset (f := fun xs => xs.push Value.none) (its' := [Value.none]) (ys := [V.non]) (t' := s2.toks) hq1 at1 (by simp) (.cons rfl .nil) (by rw [sizeLine_eq]; decide)
  obtain ⟨z1, its1, k1, rv1, e1, at2⟩ := I5.lstM upd_same
  obtain ⟨w1, rfl, _⟩ := rv1.one
  have one : (upd H2 q (.lst [V.non])) q = some (.lst [V.non]) := upd_same
  have I6 := I5.lset (f := fun xs => xs.pop) (its' := []) (ys := []) (t' := s2.toks) one at2 (by rfl) .nil (Nat.zero_le _)
  have same : upd (upd H2 q (.lst [V.non])) q (.lst []) = H2 := by
    rw [upd_upd]
    exact funext fun b => if hb : b = q then by rw [hb, upd_same, hq1] else upd_ne hb
  rw [same] at I6
  exact wpAny_updateSeq at2 rfl (wpAny_pure ⟨plainId_quiet F.plain_extend_loop _, out _ I6⟩) (by rw [sizeLine_eq]; simp) (by rw [sizeLine_eq]; simp)
end
end MX
end
section
/-! Within a try: an instance called, an instance made with keywords. -/
namespace MX
open PySem PySem.Spec PyProof.Rows L2 PySem.W StX
section
variable {X : Cx} {CX : CXT} {k n : Nat} {f g C : Addr} {fd : FuncData} {ps ks : List PySem.Str} {sp : Sp} {Es : L2.St → XK} {x : PySem.Str} {p pos : Pos} {fe e : Expr} {es : List Expr} {kws : List Keyword} {tf : TE} {t tk : TA} {gp : List Value → List Value → List Value} {gV : List V → List V → List V}
def tCallOT (C : Addr) (sp : Sp) (Es : L2.St → XK) (tf : TE) (t : TA) : TE := fun σ H Q => tf σ H fun y H1 => ∃ a, y = V.ref a ∧ t σ H1 fun vs H2 => (∃ dx fs, H2 a = some (.ins C dx fs)) ∧ sp (V.ref a :: vs) H2 Q (Es σ)
theorem pe_callOT (hf : PE X fe tf) (c : CallO X.K C g) (F : FnR X.prog X.w X.K X.mg X.base CX k g sp) (hr : Room k X.A) (hx : ∀ σ, PassesAt CX X σ (Es σ)) (ha : PA X (e :: es) t)
    (text : eval (.Call fe (e :: es) [] pos) X.env = (do callWith pos (← eval fe X.env) [] (backTo pos (starEach (e :: es) X.env)) (backToKw pos (keywordEach [] X.env))) := by rfl)
    (first : starEach (e :: es) X.env = (false, eval e X.env) :: starEach es X.env := by rfl) (nost : (backTo pos (starEach es X.env)).any (·.1) = false := by rfl) : PE X (.Call fe (e :: es) [] pos) (tCallOT C sp Es tf t) := by
  constructor
  intro pins s σ H Q I h
  refine Call_ (thn (hf.run pins s σ H _ I h) fun r1 s1 ⟨y, H1, I1, rel, a, ey, q⟩ => ?_) text
  subst ey
  cases rel
  refine callO_with (thn (ha.run pos pins s1 σ H1 _ I1 q) fun us s2 ⟨vs, H2, I2, r, ins, q2⟩ => ?_) first nost
  obtain ⟨o, od, at_, plain⟩ := insC_at I2 (.inr ins)
  exact ⟨⟨C, o, od, at_, plain⟩, wpAny_call (PySem.W.kco_code I2.kIn at_ plain c.at_ c.fn c.fi (run_pos (us := Value.ref a :: us) (vs := V.ref a :: vs) F hr hx I2 (.cons (show L2.RelV (V.ref a) (Value.ref a) from rfl) r) q2))⟩
theorem op_neDK {K : PySem.W.Frag} (hK : X.K = K) (hu : X.A.units + 64 < cLine) : OpR X (compareOp .NotEq) (rNeD K) := by
  subst hK
  exact op_neD hu
theorem sl_listK {K : PySem.W.Frag} (hK : X.K = K) : SlR X (rSlL K) := by
  subst hK
  exact sl_list
theorem pe_get1NK {P : Program} {w : World} {d e : Expr} {td ty : TE} {apos cpos : Pos} (hP : X.prog = P) (hw : X.w = w) (hd : PE X d td) (he : PE X e ty) (m : M1 X d "get" apos e cpos) : PE X (.Call (.Attribute d "get" apos) [e] [] cpos) (tGet1N P w td ty) := by
  subst hP hw
  exact pe_get1N hd he m
theorem call_lenK {K : PySem.W.Frag} (hK : X.K = K) : CallR X (.builtin "len") (fun xs H Q => ∃ p ys, xs = [V.ref p] ∧ (SqL K H p ys ∨ SqT K H p ys) ∧ Q (V.int ys.length) H) := by
  subst hK
  exact call_len_seq
def tMakeKT (C : Addr) (n m : Nat) (sp : Sp) (gV : List V → List V → List V) (Es : L2.St → XK) (t tk : TA) : TE := fun σ H Q => tMakeK C n m sp gV (Es σ) t tk σ H Q
theorem made_kw {E : XK} {pins : List (Addr × Obj)} {σ : L2.St} {H : Hp} {s : Shared} {Q : VK} {us ws : List Value} {vs zs : List V} (M : Mk X.K C f) (F : FnOk X.prog X.w X.K X.mg X.base CX k f fd ps sp) (hr : Room (k + 1) X.A) (hb : KBn X.K fd ps (n + 1) ks gp gV) (hx : PassesAt CX X σ E)
    (I : L2.Inv X pins σ H s) (r : Vals vs us) (rz : Vals zs ws) (l1 : vs.length = n) (l2 : zs.length = ks.length)
    (h : ∀ x dx, H x = none → H dx = none → dx ≠ x → sp (gV (.ref x :: vs) zs) (upd (upd H dx (.own x)) x (.ins C dx [])) (fun v H2 => v = .non ∧ Q (.ref x) H2) E) : wpAny (model X.prog X.w) X.A (call (.ref C) us (ks.zip ws)) (EP X pins σ Q) X.xe s := by
  have J := Inv.made (C := C) I
  have run := h (s.heap.objs.size + 1) s.heap.objs.size (I.hok.fresh (Nat.le_succ _)) (I.hok.fresh (Nat.le_refl _)) (Nat.ne_of_lt (Nat.lt_succ_self _))
  have rel : Vals (V.ref (s.heap.objs.size + 1) :: vs) (Value.ref (s.heap.objs.size + 1) :: us) := .cons (show L2.RelV (V.ref (s.heap.objs.size + 1)) (Value.ref (s.heap.objs.size + 1)) from rfl) r
  have many : (Value.ref (s.heap.objs.size + 1) :: us).length = n + 1 := congrArg Nat.succ (r.length.symm.trans l1)
  have bound := hb.to _ (Value.ref (s.heap.objs.size + 1) :: us) ws J.kIn many (rz.length.symm.trans l2)
  have ran := F.run _ X.stack _ _ ⟨Value.ref (s.heap.objs.size + 1) :: us, ks.zip ws⟩ _ _ _ E (hr.make C us (ks.zip ws)) (J.env0.make C us (ks.zip ws)) bound (hb.rel rel rz) run
  refine wpAny_call (make_map (f := f) I.kIn M.makes M.init (beq_iff_eq.mp M.fn) (codeAny_mono ran fun out s' z => ?_))
  match out, z with
  | .error err, z => exact hx pins _ _ err s' J z
  | .ok (.ret u), z =>
    obtain ⟨v, H', I3, rv, rfl, q⟩ := J.after z
    exact ⟨rv, ⟨V.ref (s.heap.objs.size + 1), H', I3, rfl, q⟩⟩
theorem pe_makeKT (M : Mk X.K C f) (F : FnOk X.prog X.w X.K X.mg X.base CX k f fd ps sp) (hr : Room (k + 1) X.A) (hg : Gl X x) (hm : X.mg x = some (.ref C)) (hb : KBn X.K fd ps (n + 1) ks gp gV) (hx : ∀ σ, PassesAt CX X σ (Es σ)) (ha : PA X (e :: es) t) (hkw : PK X kws tk)
    (all : (backToKw pos (keywordEach kws X.env)).all (·.1.isSome) = true := by rfl) (names : (backToKw pos (keywordEach kws X.env)).filterMap (·.1) = ks := by rfl) (nodebug : (x == ("__debug__" : PySem.Str)) = false := by decide)
    (first : starEach (e :: es) X.env = (false, eval e X.env) :: starEach es X.env := by rfl) (nost : ((backTo pos (starEach (e :: es) X.env)).any (·.1) || (backToKw pos (keywordEach kws X.env)).any (·.1.isNone)) = false := by rfl) :
    PE X (.Call (.Name x p) (e :: es) kws pos) (tMakeKT C n ks.length sp gV Es t tk) := by
  constructor
  intro pins s σ H Q I h
  refine wpAny_Call_Name_kw (ld_glob I hg hm ?_ nodebug)
  refine PySem.W.callWith_KW (h₀ := X.base) I.ok.mod.kin M.kp all (thn (ha.run pos pins s σ H _ I h) fun us s1 ⟨vs, H1, I1, r, q⟩ => ?_) nost first
  refine thn (hkw.run pos pins s1 σ H1 _ I1 q) fun ws s2 ⟨zs, H2, I2, rz, l1, l2, q2⟩ => ⟨I2.kIn, ?_⟩
  rw [names]
  exact made_kw M F hr hb (hx σ) I2 r rz l1 l2 q2
end
end MX
end
section
/-! The law: spoilt evidence. -/
namespace K1
open PySem L2
open MX (Rise Up)
def LawS4 (K : PySem.W.Frag) (C : Addr) (ns : List Int) (σ : L2.St) (H : Hp) : Prop := ∃ (a p1 p2 fr : Addr) (m1 m2 : Int) (st1 st2 : List Stp) (ks : List Str) (s1 s2 s3 s4 s5 s9 s10 s11 s12 s13 s14 s15 s16 s17 s18 s19 s20 s21 : Option V), σ = [some (.ref a), s1, s2, s3, s4, s5, some (.ref p1), some (.ref p2), some (.ref fr), s9, s10, s11, s12, s13, s14, s15, s16, s17, s18, s19, s20, s21] ∧ Bas K C H a p1 p2 fr ns m1 m2 st1 st2 ks
theorem mkU {CU c : Addr} {H : Hp} {us : List V} {b : V} {Q : VK} {E : XK} {x dx : Addr} (nx : H x = none) (ndx : H dx = none) (hc : H c = some (.lst us)) (k : ∀ (dx a : Addr) (H' : Hp), Same H H' → H' x = some (.ins CU dx (uF a b)) → H' a = some (.lst us) → Q .non H') :
    spUI CU (.ref x :: ([.ref c, b] ++ [])) (upd (upd H dx (.own x)) x (.ins CU dx [])) Q E :=
  ⟨x, dx, c, us, b, rfl, upd_same, by rw [upd_ne (ne_of_none hc nx), upd_ne (ne_of_none hc ndx)]; exact hc, fun H' dx' a' off hx ha na => k dx' a' H' (made_same nx ndx off) hx ha⟩
theorem mkA {CA c : Addr} {H : Hp} {us : List V} {Q : VK} {E : XK} {x dx : Addr} (nx : H x = none) (ndx : H dx = none) (hc : H c = some (.lst us)) (k : ∀ (dx a : Addr) (H' : Hp), Same H H' → H' x = some (.ins CA dx (aF a)) → H' a = some (.lst us) → Q .non H') :
    spAI CA (.ref x :: ([.ref c] ++ [])) (upd (upd H dx (.own x)) x (.ins CA dx [])) Q E :=
  ⟨x, dx, c, us, rfl, upd_same, by rw [upd_ne (ne_of_none hc nx), upd_ne (ne_of_none hc ndx)]; exact hc, fun H' dx' a' off hx ha na => k dx' a' H' (made_same nx ndx off) hx ha⟩
theorem cut_tail (xs : List V) : cutV xs (some 1) none = xs.tail := by
  cases xs with
  | nil => rfl
  | cons x xs =>
    have e : cutV (x :: xs) (some 1) none = ((x :: xs).drop (min 1 (x :: xs).length)).take ((x :: xs).length - min 1 (x :: xs).length) := rfl
    rw [e, Nat.min_eq_left (by rw [List.length_cons]; omega), List.drop_one, List.tail_cons, List.length_cons, Nat.add_sub_cancel, List.take_length]
theorem cut_last (xs : List V) : cutV xs none (some (-1)) = xs.dropLast := by
  have e : cutV xs none (some (-1)) = (xs.drop 0).take ((-1 + (xs.length : Int)).toNat - 0) := rfl
  rw [e, List.drop_zero, List.dropLast_eq_take]
  congr 1
  omega
theorem pairs_tail {H H' : Hp} {c : Addr} {ps : List Node} {as : List Addr} (a2 : as.length = ps.length) (a3 : ∀ (i : Nat) (t : Addr) (p : Node), as[i]? = some t → ps[i]? = some p → PairOf H t p) (e : Same H H') (hc : H' c = some (.lst ((as.map V.ref).tail))) : PairsAt H' c ps.tail :=
  ⟨as.tail, by rw [hc, List.map_tail], by rw [List.length_tail, List.length_tail, a2], fun i t p x y => by
    rw [List.getElem?_tail] at x y
    exact (a3 _ t p x y).same e⟩
theorem if_split {c : TT} {a : TS} {D : Ends} {σ : L2.St} {H : Hp} (Pn : Hp → Prop) (h1 : ∀ N : L2.St → Hp → Prop, (∀ H', Pn H' → N σ H') → tIfS c a tNext { D with nx := N } σ H) (h2 : ∀ H', Pn H' → D.nx σ H') : tIfS c a tNext D σ H := h1 D.nx h2
theorem pick_m {σ : L2.St} {H : Hp} {Q : VK} {b : Bool} {p1 p2 : Addr} (h6 : σ[6]? = some (some (.ref p1))) (h7 : σ[7]? = some (some (.ref p2))) (h : ∀ p, (b = true → p = p1) → (b = false → p = p2) → Q (.ref p) H) : if b = true then tVar 6 σ H Q else tVar 7 σ H Q := by
  cases b with
  | true => exact iteT ⟨_, h6, h p1 (fun _ => rfl) fun z => by cases z⟩
  | false => exact iteF ⟨_, h7, h p2 (fun z => by cases z) fun _ => rfl⟩
section
variable {P : Program} {w : World} {K : PySem.W.Frag} {mg : Str → Option Value} {base : Heap} {C CB CO CA CU CS : Addr} {f : Addr} {cdv : Value} {A : Around} {outer : List Env} {s : Shared} {H0 : Hp} {E : XK}
set_option maxHeartbeats 1000000 in
theorem law_C {fQ fI fIA fIU fsA fsU : Addr} {fdQ fdI fdIA fdIU fdsA fdsU : FuncData} {ns : List Int} (T : TxtLw K mg C CO CA CU CS) (TS : TxtSay P w K mg base CA CU)
    (A_law_quiet : At1 K mg "_law_quiet" fQ) (G_law_quiet : FnOk P w K mg base CX0 1 fQ fdQ ["steps", "free", "states"] spQuiet) (b_law_quiet : Binds K fdQ ["steps", "free", "states"] [])
    (A_is_trace : At1 K mg "is_trace" fI) (G_is_trace : FnOk P w K mg base (L2.CX P w) 4 fI fdI ["machine", "trace", "free"] (spIsT C)) (b_is_trace : Binds K fdI ["machine", "trace", "free"] [])
    (M_Alike : Mk K CA fIA) (G_Alike : FnOk P w K mg base CX0 1 fIA fdIA ["self", "pairs"] (spAI CA)) (b_Alike : Binds K fdIA ["self", "pairs"] [])
    (M_Unlike : Mk K CU fIU) (G_Unlike : FnOk P w K mg base CX0 1 fIU fdIU ["self", "trace", "is_first"] (spUI CU)) (b_Unlike : Binds K fdIU ["self", "trace", "is_first"] [])
    (M_shows_Alike : Meth K CA "shows" fsA) (G_shows_Alike : FnOk P w K mg base (L2.CX P w) 5 fsA fdsA ["self", "one", "other", "free"] (spAShows C CA)) (b_shows_Alike : Binds K fdsA ["self", "one", "other", "free"] [])
    (M_shows_Unlike : Meth K CU "shows" fsU) (G_shows_Unlike : FnOk P w K mg base (L2.CX P w) 5 fsU fdsU ["self", "one", "other", "free"] (spUShows C CU)) (b_shows_Unlike : Binds K fdsU ["self", "one", "other", "free"] [])
    (hr : Room 8 (lawX P w K mg base f cdv A outer s H0 E).A)
    (rest : ∃ t, PSs (lawX P w K mg base f cdv A outer s H0 E) ((defBody sLaw).drop 7) t ∧ ∀ σ H D, LawS4 K C ns σ H → (∀ H', D.rt (.bl true) H') → t D σ H) :
    ∃ t, PSs (lawX P w K mg base f cdv A outer s H0 E) ((defBody sLaw).drop 6) t ∧ ∀ σ H D, LawS3 K C CA CU ns σ H → (∀ H', D.rt (.bl true) H') → t D σ H := by
  have nd := scLaw.nd
  have hu := hr.units
  have hu65 := room65 hr
  have hr_law_quiet : Room 1 _ := hr.mono (by decide)
  have hr_is_trace : Room 4 _ := hr.mono (by decide)
  have hr_Alike : Room 2 _ := hr.mono (by decide)
  have hr_Unlike : Room 2 _ := hr.mono (by decide)
  have hr_shows_Alike : Room 5 _ := hr.mono (by decide)
  have hr_shows_Unlike : Room 5 _ := hr.mono (by decide)
  obtain ⟨tR, hR, restR⟩ := rest
  refine ⟨_, (pss_cons (ps_if (pt_val (pe_callB call_isi (by rfl) T.isinstance (by decide +kernel) (pa_cons (pv 10) (pa_cons (pe_glob (v := .ref CU) (by rfl) T.Unlike.g rfl) pa_nil))))
        (pss_cons (ps_par (i := 11) (j := 12) (by rfl) nd rfl rfl (by decide) rfl rfl (pa_cons (pe_call G_is_trace hr_is_trace (by rfl) A_is_trace.g A_is_trace.k b_is_trace .nil passL (pa_cons (pv 6) (pa_cons (pe_fld (pv 10) rfl) (pa_cons (pv 8) pa_nil)))) (pa_cons (pe_call G_is_trace hr_is_trace (by rfl) A_is_trace.g A_is_trace.k b_is_trace .nil passL (pa_cons (pv 7) (pa_cons (pe_fld (pv 10) rfl) (pa_cons (pv 8) pa_nil)))) pa_nil)) (by rfl))
        (pss_cons (ps_for PassesOwn.never rfl (pi_tup (pe_tup (pa_cons pe_str (pa_cons pe_str pa_nil)))) (pg_name (i := 13) nd rfl (Or.inl rfl))
          (pss_cons (ps_set (i := 14) nd rfl (Or.inl rfl) (pe_op op_cat (pe_fld (pv 10) rfl) (pe_lst (pa_cons (pv 13) pa_nil))))
          (pss_one (ps_if (PW.pt (pw_and (pt_val (pe_call G_is_trace hr_is_trace (by rfl) A_is_trace.g A_is_trace.k b_is_trace .nil passL (pa_cons (pe_ifExp (pt_val (pv 11)) (pv 6) (pv 7)) (pa_cons (pv 14) (pa_cons (pv 8) pa_nil))))) (pw_and1 (pt_val (pe_meth (pe_make M_Unlike G_Unlike hr_Unlike (by rfl) T.Unlike.g b_Unlike .nil pass0 (pa_cons (pv 14) (pa_cons (pv 11) pa_nil))) T.Unlike.cl M_shows_Unlike G_shows_Unlike hr_shows_Unlike b_shows_Unlike .nil passL (pa_cons (pv 6) (pa_cons (pv 7) (pa_cons (pv 8) pa_nil))))))))
            (pss_one (ps_ret pe_bl))
            pss_nil))))
        (pss_cons (ps_if (PW.pt (pw_or (pt_cmpR op_ne (pe_callB call_len_seq (by rfl) T.len PySem.boot_len (pa_cons (pe_fld (pv 10) rfl) pa_nil)) (pv 9) (nomark _)) (pw_or (pt_cmpR op_eq (pv 11) (pv 12) (nomark _)) (pw_or (pt_cmpR op_ne (pe_fld (pv 10) rfl) (pv 11) (nomark _)) (pw_or1 (pt_val (pe_meth (pe_make M_Alike G_Alike hr_Alike (by rfl) T.Alike.g b_Alike .nil pass0 (pa_cons (pe_lst pa_nil) pa_nil)) T.Alike.cl M_shows_Alike G_shows_Alike hr_shows_Alike b_shows_Alike .nil passL (pa_cons (pv 6) (pa_cons (pv 7) (pa_cons (pv 8) pa_nil))))))))))
          (pss_one (ps_ret pe_bl))
          pss_nil)
        (pss_one (ps_if (PW.pt (pw_or (pt_val (pe_meth (pe_make M_Unlike G_Unlike hr_Unlike (by rfl) T.Unlike.g b_Unlike .nil pass0 (pa_cons (pe_fld (pv 10) rfl) (pa_cons (pe_not (pv 11)) pa_nil))) T.Unlike.cl M_shows_Unlike G_shows_Unlike hr_shows_Unlike b_shows_Unlike .nil passL (pa_cons (pv 6) (pa_cons (pv 7) (pa_cons (pv 8) pa_nil))))) (pw_or1 (pt_val (pe_meth (pe_make M_Unlike G_Unlike hr_Unlike (by rfl) T.Unlike.g b_Unlike .nil pass0 (pa_cons (pe_slice sl_list (pe_fld (pv 10) rfl) po_none (po_some (pe_un un_neg pe_int))) (pa_cons (pv 11) pa_nil))) T.Unlike.cl M_shows_Unlike G_shows_Unlike hr_shows_Unlike b_shows_Unlike .nil passL (pa_cons (pv 6) (pa_cons (pv 7) (pa_cons (pv 8) pa_nil))))))))
          (pss_one (ps_ret pe_bl))
          pss_nil)))))
        (pss_cons (ps_if (PW.pt (pw_or (pt_val (pe_meth (pe_make M_Unlike G_Unlike hr_Unlike (by rfl) T.Unlike.g b_Unlike .nil pass0 (pa_cons (pe_lst (pa_cons pe_str pa_nil)) (pa_cons pe_bl pa_nil))) T.Unlike.cl M_shows_Unlike G_shows_Unlike hr_shows_Unlike b_shows_Unlike .nil passL (pa_cons (pv 6) (pa_cons (pv 7) (pa_cons (pv 8) pa_nil))))) (pw_or1 (PW.pt (pw_and (pt_cmpR op_gt (pe_callB call_len_seq (by rfl) T.len PySem.boot_len (pa_cons (pe_fld (pv 10) rfl) pa_nil)) pe_int (nomark _)) (pw_and (pt_val (pe_meth (pe_make M_Alike G_Alike hr_Alike (by rfl) T.Alike.g b_Alike .nil pass0 (pa_cons (pe_slice sl_list (pe_fld (pv 10) rfl) (po_some pe_int) po_none) pa_nil)) T.Alike.cl M_shows_Alike G_shows_Alike hr_shows_Alike b_shows_Alike .nil passL (pa_cons (pv 6) (pa_cons (pv 7) (pa_cons (pv 8) pa_nil))))) (pw_and1 (pt_cmpR op_eq (pe_callB call_len_seq (by rfl) T.len PySem.boot_len (pa_cons (pe_fld (pv 10) rfl) pa_nil)) pe_int (nomark _)))))))))
          (pss_one (ps_ret pe_bl))
          pss_nil)
        (pss_cons (ps_set (i := 15) nd rfl (Or.inr rfl) (pe_tup (pa_cons (pe_call G_law_quiet hr_law_quiet (by rfl) A_law_quiet.g A_law_quiet.k b_law_quiet .nil pass0 (pa_cons (pe_fld (pv 6) rfl) (pa_cons (pv 8) (pa_cons (pe_lst (pa_cons pe_int pa_nil)) pa_nil)))) (pa_cons (pe_call G_law_quiet hr_law_quiet (by rfl) A_law_quiet.g A_law_quiet.k b_law_quiet .nil pass0 (pa_cons (pe_fld (pv 7) rfl) (pa_cons (pv 8) (pa_cons (pe_lst (pa_cons pe_int pa_nil)) pa_nil)))) pa_nil))))
        (pss_one (ps_if (PW.pt (pw_or (pt_cmpR (op_notInD hu65) (pv 15) (pe_fld (pv 10) rfl) rfl) (pw_or1 (pt_val (pe_meth (pe_make M_Alike G_Alike hr_Alike (by rfl) T.Alike.g b_Alike .nil pass0 (pa_cons (pe_lc (own := [("pair", 20)]) (by rfl) nd (pi_list (pe_fld (pv 10) rfl)) (blkOk_by (N := nLaw) (sc := defScope sLaw) (by decide +kernel)) (fun _ _ _ _ _ => (pg_name (i := 20) nd rfl (Or.inl rfl))) (fun _ _ _ _ _ => pts_one (pt_cmpR (MX.op_neDK (K := K) rfl hu) (pv 20) (pv 15) (nomark _))) (fun _ _ _ _ _ => (pv 20))) pa_nil)) T.Alike.cl M_shows_Alike G_shows_Alike hr_shows_Alike b_shows_Alike .nil passL (pa_cons (pv 6) (pa_cons (pv 7) (pa_cons (pv 8) pa_nil))))))))
          (pss_one (ps_ret pe_bl))
          pss_nil)))))
      hR), ?_⟩
  rintro σ H D ⟨a, p1, p2, fr, X, m1, m2, st1, st2, ks, due, s1, s2, s3, s4, s5, rfl, B, fo⟩ k
  refine into ?_
  rcases id fo with ⟨⟨dx, l, ps, ws, hX, pa, q, nod⟩, rfl⟩ | ⟨tr, b, ⟨dx, l, hX, hL, td, lt⟩, rfl⟩
  · refine ⟨_, rfl, .ref X, .ref CU, _, _, _, rfl, .own CU, TS.tyA _ _ _ _ hX, TS.kitA, _, rfl, iteF ?_⟩
    have TW := B.two
    have whole := whole_shows q
    have lenps : ps.length ≤ 65536 := nodes_few TW.high1 TW.high2 nod (que_goods q)
    refine into (if_split (fun H' => Same H H') (fun N hN => ?_) fun H3 e03 => ?_)
    · refine ⟨by show 1 ≤ sizeLine; decide, fun c nc x dx1 nx ndx _ => mkU nx ndx upd_same fun dx1 a1 H1 e1 hx ha => ⟨rfl, ?_⟩⟩
      have e01 : Same H H1 := (same_new nc).trans e1
      have TW1 := TW.same e01
      refine ⟨x, dx1, _, rfl, hx, uF_none (by decide +kernel), _, rfl, _, rfl, _, rfl, x, dx1, a1, p1, p2, fr, m1, m2, st1, st2, ks, [Str.ofString "a"], true, rfl, TW1, hx, ha, by decide +kernel, fun H2 r e2 hr2 => ?_⟩
      have er : r = false := Bool.eq_false_iff.mpr fun z => whole_unlike q TW.low1 TW.low2 (by decide +kernel) (hr2.mp z)
      subst er
      have e02 := e01.trans e2
      clear hx ha nx ndx hr2 e2 TW1 e01 e1 nc
      obtain ⟨as, l1, l2, l3⟩ := id pa
      refine ⟨_, rfl, iteF ⟨_, rfl, X, CA, dx, _, _, rfl, e02 _ _ hX, T.Alike.cl, T.n_pairs, aF_pairs, l, _, rfl, .inl (SqL.of (e02 _ _ l1)), _, _, rfl, rfl, _, rfl, ?_⟩⟩
      have pos : 0 < ps.length := by
        have := (List.getElem?_eq_some_iff.mp q.first).1
        exact this
      refine iteT' (by rw [List.length_map, l2]; exact decide_eq_true (by omega)) ?_
      refine ⟨_, rfl, X, CA, dx, _, _, rfl, e02 _ _ hX, T.Alike.cl, T.n_pairs, aF_pairs, 1, rfl, l, _, rfl, SqL.of (e02 _ _ l1), fun c3 nc3 x3 dx3 nx3 ndx3 _ => mkA nx3 ndx3 upd_same fun dx3 a3 H3 e3 hx3 ha3 => ⟨rfl, ?_⟩⟩
      have e23 : Same H2 H3 := (same_new nc3).trans e3
      have e03 := e02.trans e23
      rw [cut_tail] at ha3
      have pt : PairsAt H3 a3 ps.tail := pairs_tail l2 l3 e03 ha3
      refine ⟨x3, dx3, _, rfl, hx3, aF_none (by decide +kernel), _, rfl, _, rfl, _, rfl, x3, dx3, a3, p1, p2, fr, m1, m2, st1, st2, ks, ps.tail, rfl, TW.same e03, ab_okW B.ab1, ab_okW B.ab2, hx3, pt, nod.sublist (List.tail_sublist ps), fun p hp => que_goods q p (List.mem_of_mem_tail hp), fun H4 r e4 hr4 => ?_⟩
      cases r with
      | false => exact ⟨_, rfl, iteF (iteF (hN _ (e03.trans e4)))⟩
      | true =>
        have st := (hr4.mp rfl).1
        have l2' : ps.length ≠ 1 := fun z => by
          have : ps.tail = [] := List.eq_nil_of_length_eq_zero (by rw [List.length_tail, z])
          rw [this] at st; cases st
        refine ⟨_, rfl, iteT ⟨_, rfl, X, CA, dx, _, _, rfl, (e03.trans e4) _ _ hX, T.Alike.cl, T.n_pairs, aF_pairs, l, _, rfl, .inl (SqL.of ((e03.trans e4) _ _ l1)), rfl, _, rfl, iteF' ?_ (hN _ (e03.trans e4))⟩⟩
        rw [List.length_map, l2]
        simp
        omega
    · have B3 := B.same e03
      have TW3 := B3.two
      obtain ⟨⟨dxa, sA1, fs1, hp1, lk1, R1⟩, ⟨dxb, sA2, fs2, hp2, lk2, R2⟩⟩ := TW3.rows
      obtain ⟨⟨xs1, hs1, row1⟩, ok1, few1, low1, high1⟩ := id R1
      obtain ⟨⟨xs2, hs2, row2⟩, ok2, few2, low2, high2⟩ := id R2
      have zero1 : InR m1 [0] := fun x hx => by rw [List.mem_singleton.mp hx]; omega
      have zero2 : InR m2 [0] := fun x hx => by rw [List.mem_singleton.mp hx]; omega
      have hf := TW3.free
      obtain ⟨as, l1, l2, l3⟩ := (pa.same e03)
      have hX3 := e03 _ _ hX
      refine into ⟨_, rfl, p1, C, dxa, _, _, rfl, hp1, T.Machine.cl, T.n_steps, lk1, _, rfl, by show 1 ≤ sizeLine; decide, fun z1 nz1 => ⟨sA1, fr, z1, xs1, st1, ks, m1, [0], rfl, same_new nz1 _ _ hs1, row1.same (same_new nz1), ok1, few1, by omega, same_new nz1 _ _ hf, upd_same, by decide, zero1, fun H4 t1 e4 ht1 => ?_⟩⟩
      have e34 : Same H3 H4 := (same_new nz1).trans e4
      refine ⟨_, rfl, p2, C, dxb, _, _, rfl, e34 _ _ hp2, T.Machine.cl, T.n_steps, lk2, _, rfl, by show 1 ≤ sizeLine; decide, fun z2 nz2 => ⟨sA2, fr, z2, xs2, st2, ks, m2, [0], rfl, same_new nz2 _ _ (e34 _ _ hs2), row2.same (e34.trans (same_new nz2)), ok2, few2, by omega, same_new nz2 _ _ (e34 _ _ hf), upd_same, by decide, zero2, fun H5 t2 e5 ht2 => ⟨by show 2 ≤ sizeLine; decide, fun SS nS => ?_⟩⟩⟩
      have e45 : Same H4 H5 := (same_new nz2).trans e5
      have e56 : Same H5 (upd H5 SS (.tup [.ref t1, .ref t2])) := same_new nS
      have po : PairOf (upd H5 SS (.tup [.ref t1, .ref t2])) SS (startN (opn st1 ks) (opn st2 ks) m1 m2) := ⟨t1, t2, upd_same, e56 _ _ (e45 _ _ ht1), e56 _ _ ht2⟩
      have e36 := (e34.trans e45).trans e56
      generalize upd H5 SS (.tup [.ref t1, .ref t2]) = H6 at po e36
      clear e56 e45 e34 e4 e5 ht1 ht2 nS nz1 nz2
      have pa6 : PairsAt H6 l ps := (pa.same e03).same e36
      refine into ⟨_, rfl, _, rfl, X, CA, dx, _, _, rfl, e36 _ _ hX3, T.Alike.cl, T.n_pairs, aF_pairs, dN (startN (opn st1 ks) (opn st2 ks) m1 m2), ps.map dN, dp_N po, dp_Ns pa6, shape_N _, shape_Ns _, _, rfl, ?_⟩
      rw [any_N, decide_eq_true whole.1]
      refine iteF ?_
      have h36 := e36 _ _ l1
      refine ⟨_, rfl, X, CA, dx, _, _, rfl, e36 _ _ hX3, T.Alike.cl, T.n_pairs, aF_pairs, l, rfl, ⟨_, SqL.of h36⟩, fun DD nD => lc_list (K := K) (a := l) (xs := as.map V.ref) (fun i H' => PairsAt H' DD ((ps.take i).filter fun p => decide (p ≠ startN (opn st1 ks) (opn st2 ks) m1 m2)) ∧ Same H6 H') ⟨⟨[], upd_same, by rw [List.take_zero]; rfl, fun i t p x => by simp at x⟩, same_new nD⟩ (fun i H' _ z => SqL.of (z.2 _ _ h36)) ?_ ?_⟩
      · rintro i x H7 hx ⟨⟨bs, b1, b2, b3⟩, e7⟩
        obtain ⟨t, ht, rfl⟩ : ∃ t, as[i]? = some t ∧ x = V.ref t := by
          rw [List.getElem?_map] at hx
          cases e : as[i]? with
          | none => rw [e] at hx; cases hx
          | some g => rw [e] at hx; exact ⟨g, rfl, (Option.some.inj hx).symm⟩
        have il : i < ps.length := by rw [← l2]; exact (List.getElem?_eq_some_iff.mp ht).1
        obtain ⟨p, hp⟩ : ∃ p, ps[i]? = some p := ⟨_, List.getElem?_eq_getElem il⟩
        have pp : PairOf H7 t p := ((l3 i t p ht hp).same e36).same e7
        have bl : bs.length ≤ 65536 := by
          rw [b2]
          have := List.length_filter_le (fun p => decide (p ≠ startN (opn st1 ks) (opn st2 ks) m1 m2)) (ps.take i)
          have := List.length_take_le i ps
          omega
        refine ⟨rfl, _, rfl, _, rfl, dN p, dN (startN (opn st1 ks) (opn st2 ks) m1 m2), dp_N pp, dp_N (po.same e7), shape_N _, shape_N _, _, rfl, ?_⟩
        rw [eqv_N]
        have tk : (ps.take (i + 1)).filter (fun p => decide (p ≠ startN (opn st1 ks) (opn st2 ks) m1 m2)) = (ps.take i).filter (fun p => decide (p ≠ startN (opn st1 ks) (opn st2 ks) m1 m2)) ++ (if p = startN (opn st1 ks) (opn st2 ks) m1 m2 then [] else [p]) := by
          rw [List.take_add_one, hp, List.filter_append]
          congr 1
          by_cases c : p = startN (opn st1 ks) (opn st2 ks) m1 m2 <;> simp [c]
        by_cases c : p = startN (opn st1 ks) (opn st2 ks) m1 m2
        · refine iteF' (by simp [c]) ⟨?_, e7⟩
          rw [tk, if_pos c, List.append_nil]
          exact ⟨bs, b1, b2, b3⟩
        · refine iteT' (by simp [c]) ⟨_, rfl, _, b1, by rw [List.length_map, sizeLine_eq]; omega, ?_, fun b o z => by rw [upd_ne (ne_of_none z nD)]; exact e7 _ _ z⟩
          rw [tk, if_neg c]
          exact pairs_app b2 b3 pp (.upd b1 fun xs z => by cases z) upd_same
      · rintro H7 ⟨pD, e7⟩
        rw [List.length_map, l2, List.take_length] at pD
        obtain ⟨bs, b1, b2, b3⟩ := id pD
        refine fun x8 dx8 nx8 ndx8 _ => mkA nx8 ndx8 b1 fun dx8 a8 H8 e8 hx8 ha8 => ⟨rfl, ?_⟩
        have p8 : PairsAt H8 a8 (ps.filter fun p => decide (p ≠ startN (opn st1 ks) (opn st2 ks) m1 m2)) := ⟨bs, ha8, b2, fun i t p x y => (b3 i t p x y).same e8⟩
        have e38 := e36.trans (e7.trans e8)
        refine ⟨x8, dx8, _, rfl, hx8, aF_none (by decide +kernel), _, rfl, _, rfl, _, rfl, x8, dx8, a8, p1, p2, fr, m1, m2, st1, st2, ks, _, rfl, TW3.same e38, ab_okW B.ab1, ab_okW B.ab2, hx8, p8, nod.sublist List.filter_sublist, fun p hp => que_goods q p (List.mem_filter.mp hp).1, fun H9 r e9 hr9 => ?_⟩
        have er : r = false := Bool.eq_false_iff.mpr fun z => no_start (fun m => by simpa using (List.mem_filter.mp m).2) (hr9.mp z)
        subst er
        refine ⟨_, rfl, iteF ?_⟩
        exact restR _ _ D ⟨a, p1, p2, fr, m1, m2, st1, st2, ks, _, _, _, _, _, _, _, _, _, _, _, _, _, _, _, _, _, _, rfl, B3.same (e38.trans e9)⟩ k
  · refine ⟨_, rfl, .ref X, .ref CU, _, _, _, rfl, .own CU, TS.tyU _ _ _ _ hX, TS.kitU, _, rfl, iteT ?_⟩
    have TW := B.two
    have lt1 : m1 < 60 := by have := TW.high1; omega
    have lt2 : m2 < 60 := by have := TW.high2; omega
    have ne := over_ne td.over
    refine into ⟨_, rfl, _, rfl, X, CU, dx, _, _, rfl, hX, T.Unlike.cl, T.n_trace, uF_trace, _, rfl, p1, l, fr, m1, st1, tr, ks, rfl, TW.one, TW.ok1, TW.low1, lt1, TW.few1, hL, TW.free, TW.fewk, TW.asc, TW.wk, ne, fun H1 e1 => ?_⟩
    have TW1 := TW.same e1
    refine ⟨_, rfl, _, rfl, X, CU, dx, _, _, rfl, e1 _ _ hX, T.Unlike.cl, T.n_trace, uF_trace, _, rfl, p2, l, fr, m2, st2, tr, ks, rfl, TW1.other, TW1.ok2, TW1.low2, lt2, TW1.few2, e1 _ _ hL, TW1.free, TW1.fewk, TW1.asc, TW1.wk, ne, fun H2 e2 => ⟨_, _, rfl, ?_⟩⟩
    rw [td.first, td.second]
    have e02 := e1.trans e2
    clear TW1 e1 e2
    refine into ⟨by show 2 ≤ sizeLine; decide, fun W nW => ?_⟩
    have e23 : Same H2 (upd H2 W (.tup [.str (Str.ofString "a"), .str (Str.ofString "b")])) := same_new nW
    have hW : (upd H2 W (.tup [.str (Str.ofString "a"), .str (Str.ofString "b")])) W = some (.tup [.str (Str.ofString "a"), .str (Str.ofString "b")]) := upd_same
    have e03 := e02.trans e23
    generalize upd H2 W (.tup [.str (Str.ofString "a"), .str (Str.ofString "b")]) = H3 at hW e03
    clear e23 nW e02
    refine ⟨W, rfl, ⟨_, SqT.of hW⟩, ?_⟩
    refine for_tup (xs := abW.map V.str) (fun j σ H' => ∃ v13 v14, σ = [some (.ref a), s1, s2, s3, s4, s5, some (.ref p1), some (.ref p2), some (.ref fr), some (dueV (some tr.length)), some (.ref X), some (.bl b), some (.bl !b), v13, v14, none, none, none, none, none, none, none] ∧ Same H3 H') ⟨_, _, rfl, fun b o z => z⟩ (fun j σ H' _ ⟨_, _, _, e⟩ => SqT.of (e _ _ hW)) ?_ ?_
    · rintro j x σ H4 hx ⟨v13, v14, rfl, e4⟩
      obtain ⟨x, hd, rfl⟩ := str_at hx
      have xab : x ∈ abW := List.mem_of_getElem? hd
      have e04 := e03.trans e4
      have TW4 := TW.same e04
      have lne : ∀ y ∈ tr ++ [x], y ≠ Str.ofString "" := over_ne fun y hy => by
        rcases List.mem_append.mp hy with hy | hy
        · exact td.over y hy
        · rw [List.mem_singleton.mp hy]; exact xab
      refine gN (into ⟨_, rfl, X, CU, dx, _, _, rfl, e04 _ _ hX, T.Unlike.cl, T.n_trace, uF_trace, _, rfl, by show 1 ≤ sizeLine; decide, fun q nq => ⟨l, q, _, _, rfl, rfl, same_new nq _ _ (e04 _ _ hL), upd_same, by rw [List.length_map, sizeLine_eq]; show _ + 1 ≤ _; omega, fun LL nLL => ?_⟩⟩)
      have e45 : Same H4 (upd (upd H4 q (.lst [.str x])) LL (.lst (tr.map V.str ++ [.str x]))) := (same_new nq).trans (same_new nLL)
      have hLL : (upd (upd H4 q (.lst [.str x])) LL (.lst (tr.map V.str ++ [.str x]))) LL = some (.lst ((tr ++ [x]).map V.str)) := by rw [upd_same, List.map_append]; rfl
      generalize upd (upd H4 q (.lst [.str x])) LL (.lst (tr.map V.str ++ [.str x])) = H5 at e45 hLL
      clear nq nLL
      have TW5 := TW4.same e45
      refine ⟨_, rfl, _, rfl, pick_m rfl rfl fun p hp1 hp2 => ?_⟩
      obtain ⟨m, st, M, ok, low, few, lt'⟩ : ∃ (m : Int) (st : List Stp), MachAt C H5 p m st ∧ (∀ s ∈ st, OkS m s) ∧ 1 ≤ m ∧ st.length < 64 ∧ m < 60 := by
        cases b with
        | true => rw [hp1 rfl]; exact ⟨m1, st1, TW5.one, TW5.ok1, TW5.low1, TW5.few1, lt1⟩
        | false => rw [hp2 rfl]; exact ⟨m2, st2, TW5.other, TW5.ok2, TW5.low2, TW5.few2, lt2⟩
      refine ⟨_, rfl, _, rfl, p, LL, fr, m, st, tr ++ [x], ks, rfl, M, ok, low, lt', few, hLL, TW5.free, TW5.fewk, TW5.asc, TW5.wk, lne, fun H6 e6 => ⟨_, rfl, ?_⟩⟩
      have e36 : Same H3 H6 := (e4.trans e45).trans e6
      by_cases c : decide (0 < (seen (st.filter (isOpen ks)) m (tr ++ [x])).length) = true
      · refine iteT' c ⟨_, rfl, _, rfl, fun x7 dx7 nx7 ndx7 _ => mkU nx7 ndx7 (e6 _ _ hLL) fun dx7 a7 H7 e7 hx7 ha7 => ⟨rfl, ?_⟩⟩
        refine ⟨x7, dx7, _, rfl, hx7, uF_none (by decide +kernel), _, rfl, _, rfl, _, rfl, x7, dx7, a7, p1, p2, fr, m1, m2, st1, st2, ks, tr ++ [x], b, rfl, (TW5.same e6).same e7, hx7, ha7, lne, fun H8 r e8 hr8 => ?_⟩
        have er : r = false := Bool.eq_false_iff.mpr fun z => td.longer (hr8.mp z)
        subst er
        exact ⟨_, rfl, iteF ⟨_, _, rfl, e36.trans (e7.trans e8)⟩⟩
      · exact iteF' c (iteF ⟨_, _, rfl, e36⟩)
    · rintro σ H4 ⟨v13, v14, rfl, e4⟩
      have e04 := e03.trans e4
      have hX4 := e04 _ _ hX
      have hL4 := e04 _ _ hL
      dsimp only
      refine into ⟨_, rfl, X, CU, dx, _, _, rfl, hX4, T.Unlike.cl, T.n_trace, uF_trace, l, _, rfl, .inl (SqL.of hL4), _, rfl, rfl, _, rfl, iteF' (by rw [List.length_map]; simp [dueV]) ?_⟩
      refine ⟨_, rfl, _, rfl, rfl, _, rfl, iteF' (by cases b <;> decide) ?_⟩
      refine ⟨_, rfl, X, CU, dx, _, _, rfl, hX4, T.Unlike.cl, T.n_is_first, uF_first, _, rfl, rfl, _, rfl, iteF' (by simp) ?_⟩
      refine ⟨Nat.zero_le _, fun c nc x5 dx5 nx5 ndx5 _ => mkA nx5 ndx5 upd_same fun dx5 a5 H5 e5 hx5 ha5 => ⟨rfl, ?_⟩⟩
      have e05 := e04.trans ((same_new nc).trans e5)
      refine ⟨x5, dx5, _, rfl, hx5, aF_none (by decide +kernel), _, rfl, _, rfl, _, rfl, x5, dx5, a5, p1, p2, fr, m1, m2, st1, st2, ks, [], rfl, TW.same e05, ab_okW B.ab1, ab_okW B.ab2, hx5, ⟨[], ha5, rfl, fun i t p x => by simp at x⟩, List.nodup_nil, (fun p hp => by cases hp), fun H6 r e6 hr6 => ?_⟩
      have er : r = false := Bool.eq_false_iff.mpr fun z => nil_shows (hr6.mp z)
      subst er
      have e06 := e05.trans e6
      refine ⟨_, rfl, iteF ?_⟩
      unfold tNext
      dsimp only
      refine ⟨_, rfl, X, CU, dx, _, _, rfl, e06 _ _ hX, T.Unlike.cl, T.n_trace, uF_trace, _, rfl, _, rfl, fun x7 dx7 nx7 ndx7 _ => mkU nx7 ndx7 (e06 _ _ hL) fun dx7 a7 H7 e7 hx7 ha7 => ⟨rfl, ?_⟩⟩
      have e07 := e06.trans e7
      refine ⟨x7, dx7, _, rfl, hx7, uF_none (by decide +kernel), _, rfl, _, rfl, _, rfl, x7, dx7, a7, p1, p2, fr, m1, m2, st1, st2, ks, tr, !b, rfl, TW.same e07, hx7, ha7, ne, fun H8 r e8 hr8 => ?_⟩
      have er : r = false := Bool.eq_false_iff.mpr fun z => td.other (hr8.mp z)
      subst er
      have e08 := e07.trans e8
      refine ⟨_, rfl, iteF ?_⟩
      refine ⟨_, rfl, X, CU, dx, _, _, rfl, e08 _ _ hX, T.Unlike.cl, T.n_trace, uF_trace, 1, rfl, -1, rfl, l, _, rfl, SqL.of (e08 _ _ hL), fun q nq => ⟨_, rfl, fun x9 dx9 nx9 ndx9 _ => mkU nx9 ndx9 upd_same fun dx9 a9 H9 e9 hx9 ha9 => ⟨rfl, ?_⟩⟩⟩
      have e09 := e08.trans ((same_new nq).trans e9)
      rw [cut_last, ← List.map_dropLast] at ha9
      refine ⟨x9, dx9, _, rfl, hx9, uF_none (by decide +kernel), _, rfl, _, rfl, _, rfl, x9, dx9, a9, p1, p2, fr, m1, m2, st1, st2, ks, tr.dropLast, b, rfl, TW.same e09, hx9, ha9, fun x hx => ne x (List.dropLast_subset tr hx), fun H10 r e10 hr10 => ?_⟩
      have er : r = false := Bool.eq_false_iff.mpr fun z => td.shorter (hr10.mp z)
      subst er
      refine ⟨_, rfl, iteF ?_⟩
      exact restR _ _ D ⟨a, p1, p2, fr, m1, m2, st1, st2, ks, _, _, _, _, _, _, _, _, _, _, _, _, _, _, _, _, _, _, rfl, B.same (e09.trans e10)⟩ k
end
end K1
end
section
/-! The law: words, kinds that are none, the end. -/
namespace K1
open PySem L2
open MX (Rise Up)
section
variable {P : Program} {w : World} {K : PySem.W.Frag} {mg : Str → Option Value} {base : Heap} {C CB CO CA CU CS : Addr} {f : Addr} {cdv : Value} {A : Around} {outer : List Env} {s : Shared} {H0 : Hp} {E : XK}
set_option maxHeartbeats 1000000 in
theorem law_D {fD fQ fB fI : Addr} {fdD fdQ fdB fdI : FuncData} {ns : List Int} (T : TxtLw K mg C CO CA CU CS)
    (A_law_draw : At1 K mg "_law_draw" fD) (G_law_draw : FnOk P w K mg base CX0 1 fD fdD ["script", "at", "many"] (spDraw K)) (b_law_draw : Binds K fdD ["script", "at", "many"] [])
    (A_law_quiet : At1 K mg "_law_quiet" fQ) (G_law_quiet : FnOk P w K mg base CX0 1 fQ fdQ ["steps", "free", "states"] spQuiet) (b_law_quiet : Binds K fdQ ["steps", "free", "states"] [])
    (A_law_behind : At1 K mg "_law_behind" fB) (G_law_behind : FnOk P w K mg base CX0 2 fB fdB ["steps", "free", "states", "word"] spLBe) (b_law_behind : Binds K fdB ["steps", "free", "states", "word"] [])
    (A_is_trace : At1 K mg "is_trace" fI) (G_is_trace : FnOk P w K mg base (L2.CX P w) 4 fI fdI ["machine", "trace", "free"] (spIsT C)) (b_is_trace : Binds K fdI ["machine", "trace", "free"] [])
    (hr : Room 8 (lawX P w K mg base f cdv A outer s H0 E).A)
    (rest : ∃ t, PSs (lawX P w K mg base f cdv A outer s H0 E) ((defBody sLaw).drop 8) t ∧ ∀ σ H D, LawS4 K C ns σ H → (∀ H', D.rt (.bl true) H') → t D σ H) :
    ∃ t, PSs (lawX P w K mg base f cdv A outer s H0 E) ((defBody sLaw).drop 7) t ∧ ∀ σ H D, LawS4 K C ns σ H → (∀ H', D.rt (.bl true) H') → t D σ H := by
  have nd := scLaw.nd
  have hu := hr.units
  have hr_law_draw : Room 1 _ := hr.mono (by decide)
  have hr_law_quiet : Room 1 _ := hr.mono (by decide)
  have hr_law_behind : Room 2 _ := hr.mono (by decide)
  have hr_is_trace : Room 4 _ := hr.mono (by decide)
  obtain ⟨tR, hR, restR⟩ := rest
  refine ⟨_, (pss_cons (ps_for PassesOwn.never rfl (pi_range1 (by rfl) T.range (pa_cons pe_int pa_nil)) (pg_name (i := 16) nd rfl (Or.inl rfl))
        (pss_cons (ps_setLc (i := 17) (own := [("spot", 21)]) (by rfl) nd rfl rfl (sw_true rfl rfl rfl (by decide +kernel)) (pi_range1 (by rfl) T.range (pa_cons (pv 16) pa_nil)) (blkOk_by (N := nLaw) (sc := defScope sLaw) (by decide +kernel)) (fun _ _ _ _ _ => (pg_name (i := 21) nd rfl (Or.inl rfl))) (fun _ _ _ _ _ => pts_nil) (fun _ _ _ _ _ => (pe_ix (ix_tupK (K := K) rfl) (pe_tup (pa_cons pe_str (pa_cons pe_str pa_nil))) (pe_call G_law_draw hr_law_draw (by rfl) A_law_draw.g A_law_draw.k b_law_draw .nil pass0 (pa_cons (pv 0) (pa_cons (pe_op op_add pe_int (pv 21)) (pa_cons pe_int pa_nil)))) (fun _ _ => rfl))))
        (pss_cons (ps_set (i := 18) nd rfl (Or.inl rfl) (pe_call G_law_quiet hr_law_quiet (by rfl) A_law_quiet.g A_law_quiet.k b_law_quiet .nil pass0 (pa_cons (pe_fld (pv 6) rfl) (pa_cons (pv 8) (pa_cons (pe_lst (pa_cons pe_int pa_nil)) pa_nil)))))
        (pss_cons (ps_for PassesOwn.never rfl (pi_list (pv 17)) (pg_name (i := 13) nd rfl (Or.inl rfl))
          (pss_one (ps_set (i := 18) nd rfl (Or.inl rfl) (pe_call G_law_behind hr_law_behind (by rfl) A_law_behind.g A_law_behind.k b_law_behind .nil pass0 (pa_cons (pe_fld (pv 6) rfl) (pa_cons (pv 8) (pa_cons (pv 18) (pa_cons (pv 13) pa_nil))))))))
        (pss_one (ps_if (pt_cmpR op_ne (pe_call G_is_trace hr_is_trace (by rfl) A_is_trace.g A_is_trace.k b_is_trace .nil passL (pa_cons (pv 6) (pa_cons (pv 17) (pa_cons (pv 8) pa_nil)))) (pe_cmpR (op_neD hu) (pv 18) (pe_tup pa_nil) (nomark _)) (nomark _))
          (pss_one (ps_ret pe_bl))
          pss_nil))))))
      hR), ?_⟩
  rintro σ H D ⟨a, p1, p2, fr, m1, m2, st1, st2, ks, s1, s2, s3, s4, s5, s9, s10, s11, s12, s13, s14, s15, s16, s17, s18, s19, s20, s21, rfl, B⟩ k
  refine into ⟨_, rfl, by decide, by decide, for_range (lo := 0) (n := 3) (fun i σ H' => ∃ v13 v16 v17 v18 v21, σ = [some (.ref a), s1, s2, s3, s4, s5, some (.ref p1), some (.ref p2), some (.ref fr), s9, s10, s11, s12, v13, s14, s15, v16, v17, v18, s19, s20, v21] ∧ Same H H') ⟨_, _, _, _, _, rfl, fun b o z => z⟩ ?_ ?_⟩
  · rintro i σ H1 ilt ⟨v13, v16, v17, v18, v21, rfl, e1⟩
    rw [show ((0 : Int) + (i : Int)) = (i : Int) from Int.zero_add _]
    have B1 := B.same e1
    refine gN (into ⟨_, rfl, _, rfl, by omega, by omega, fun Dd nD => ?_⟩)
    refine lc_range (lo := 0) (n := ((i : Int)).toNat) (fun j H' => ∃ wd : List Str, OverAB wd ∧ wd.length = j ∧ H' Dd = some (.lst (wd.map V.str)) ∧ Same H1 H') ⟨[], (fun x h => by cases h), rfl, upd_same, same_new nD⟩ ?_ ?_
    · rintro j H2 jlt ⟨wd, ow, lw, h2, e2⟩
      rw [show ((0 : Int) + (j : Int)) = (j : Int) from Int.zero_add _]
      refine gN ⟨rfl, by show 2 ≤ sizeLine; decide, fun t nt => ?_⟩
      have e3 := e2.trans (same_new (o := .tup [V.str (Str.ofString "a"), V.str (Str.ofString "b")]) nt)
      refine ⟨_, rfl, _, rfl, _, _, rfl, rfl, a, ns, 310 + (j : Int), 2, rfl, e3.seq B1.script, B1.short, by omega, by omega, by omega, fun H4 e4 => ?_⟩
      have d2 := draw_lt ns (310 + (j : Int)) (m := 2) (by omega)
      obtain ⟨x, xab, pick⟩ : ∃ x, x ∈ abW ∧ atI [V.str (Str.ofString "a"), V.str (Str.ofString "b")] (draw ns (310 + (j : Int)) 2) = some (.str x) := by
        rcases (by omega : draw ns (310 + (j : Int)) 2 = 0 ∨ draw ns (310 + (j : Int)) 2 = 1) with e | e <;> rw [e]
        · exact ⟨_, .head _, atI_nat (j := 0) rfl⟩
        · exact ⟨_, .tail _ (.head _), atI_nat (j := 1) rfl⟩
      have h4 := e4 _ _ ((same_new (o := .tup [V.str (Str.ofString "a"), V.str (Str.ofString "b")]) nt) _ _ h2)
      refine ⟨t, _, _, _, rfl, rfl, SqT.of (e4 _ _ upd_same), pick, _, h4, by rw [List.length_map, lw, sizeLine_eq]; omega, wd ++ [x], fun y hy => ?_, by rw [List.length_append, lw]; rfl, by rw [upd_same, List.map_append]; rfl, fun b o z => by rw [upd_ne (ne_of_none z nD)]; exact (e3.trans e4) _ _ z⟩
      rcases List.mem_append.mp hy with hy | hy
      · exact ow y hy
      · rw [List.mem_singleton.mp hy]; exact xab
    · rintro H2 ⟨wd, ow, lw, h2, e2⟩
      have B2 := B1.same e2
      have TW := B2.two
      obtain ⟨⟨dxa, sA1, fs1, hp1, lk1, R1⟩, _⟩ := TW.rows
      obtain ⟨⟨xs1, hs1, row1⟩, ok1, few1, low1, high1⟩ := id R1
      have zero1 : InR m1 [0] := fun x hx => by rw [List.mem_singleton.mp hx]; omega
      have hf := TW.free
      refine gN (into ⟨_, rfl, p1, C, dxa, _, _, rfl, hp1, T.Machine.cl, T.n_steps, lk1, _, rfl, by show 1 ≤ sizeLine; decide, fun z1 nz1 => ⟨sA1, fr, z1, xs1, st1, ks, m1, [0], rfl, same_new nz1 _ _ hs1, row1.same (same_new nz1), ok1, few1, by omega, same_new nz1 _ _ hf, upd_same, by decide, zero1, fun H3 t1 e3 ht1 => ?_⟩⟩)
      have e23 : Same H2 H3 := (same_new nz1).trans e3
      have h3 := e23 _ _ h2
      refine gN (into ⟨_, rfl, Dd, rfl, ⟨_, SqL.of h3⟩, ?_⟩)
      refine for_list (xs := wd.map V.str) (fun j σ H' => ∃ (t : Addr) (v13 : Option V), σ = [some (.ref a), s1, s2, s3, s4, s5, some (.ref p1), some (.ref p2), some (.ref fr), s9, s10, s11, s12, v13, s14, s15, some (.int (i : Int)), some (.ref Dd), some (.ref t), s19, s20, v21] ∧ Same H3 H' ∧ H' t = some (.tup ((seen (opn st1 ks) m1 (wd.take j)).map V.int))) ⟨t1, _, rfl, fun b o z => z, ht1⟩ (fun j σ H' _ ⟨_, _, _, e, _⟩ => SqL.of (e _ _ h3)) ?_ ?_
      · rintro j x σ H4 hx ⟨t, v13, rfl, e4, ht⟩
        obtain ⟨x, hd, rfl⟩ := str_at hx
        have e24 := e23.trans e4
        refine gN ⟨_, rfl, p1, C, dxa, _, _, rfl, e24 _ _ hp1, T.Machine.cl, T.n_steps, lk1, _, rfl, _, rfl, _, rfl, sA1, fr, t, xs1, st1, ks, m1, seen (opn st1 ks) m1 (wd.take j), x, rfl, e24 _ _ hs1, row1.same e24, ok1, few1, by omega, e24 _ _ hf, ht, seen_inr _, fun H5 t5 e5 ht5 => ?_⟩
        exact ⟨t5, _, rfl, e4.trans e5, by rw [ht5, seen_take hd]⟩
      · rintro σ H4 ⟨t, v13, rfl, e4, ht⟩
        rw [List.length_map, List.take_length] at ht
        have e24 := e23.trans e4
        have TW4 := TW.same e24
        have lt1 : m1 < 60 := by omega
        dsimp only
        refine ⟨_, rfl, _, rfl, _, rfl, p1, Dd, fr, m1, st1, wd, ks, rfl, TW4.one, TW4.ok1, TW4.low1, lt1, TW4.few1, e4 _ _ h3, TW4.free, TW4.fewk, TW4.asc, TW4.wk, over_ne ow, fun H5 e5 => ?_⟩
        refine ⟨_, rfl, Nat.zero_le _, fun q nq => ⟨.tuple ((seen (opn st1 ks) m1 wd).map .int), .tuple [], .tup (SqT.of (same_new nq _ _ (e5 _ _ ht))) (dpI _), .tup (SqT.of upd_same) .nil, shapeTI _, by decide +kernel, rfl, _, rfl, ?_⟩⟩
        rw [eqv_tnil]
        have same : decide (0 < (seen (opn st1 ks) m1 wd).length) = !decide (seen (opn st1 ks) m1 wd = []) := by
          cases seen (opn st1 ks) m1 wd <;> simp
        refine iteF' (by rw [same]; simp) ?_
        exact ⟨_, _, _, _, _, rfl, e1.trans (e2.trans (e24.trans (e5.trans (same_new nq))))⟩
  · rintro σ H1 ⟨v13, v16, v17, v18, v21, rfl, e1⟩
    exact restR _ _ D ⟨a, p1, p2, fr, m1, m2, st1, st2, ks, _, _, _, _, _, _, _, _, _, _, _, _, _, _, _, _, _, _, rfl, B.same e1⟩ k
end
end K1
end
section
/-! The law: kinds that are none; the end; the whole. -/
namespace K1
open PySem L2
open MX (Rise Up)
theorem for_in {wi : TI} {g : TG} {tb : TS} {D : Ends} {σ : L2.St} {H : Hp} (h : ∀ tb' : TS, tb' = tb → tFor wi g tb' D σ H) : tFor wi g tb D σ H := h tb rfl
section
variable {P : Program} {w : World} {K : PySem.W.Frag} {mg : Str → Option Value} {base : Heap} {C CB CO CA CU CS : Addr} {f : Addr} {cdv : Value} {A : Around} {outer : List Env} {s : Shared} {H0 : Hp} {E : XK}
set_option maxHeartbeats 1000000 in
theorem law_E {fJ : Addr} {fdJ : FuncData} {ns : List Int} (T : TxtLw K mg C CO CA CU CS)
    (A_judge_alike : At1 K mg "judge_alike" fJ) (G_judge_alike : FnOk P w K mg base (L2.CX P w) 4 fJ fdJ ["one", "other", "free"] (spJudgeB CS)) (b_judge_alike : Binds K fdJ ["one", "other", "free"] [])
    (hr : Room 8 (lawX P w K mg base f cdv A outer s H0 E).A)
    (rest : ∃ t, PSs (lawX P w K mg base f cdv A outer s H0 E) ((defBody sLaw).drop 9) t ∧ ∀ σ H D, LawS4 K C ns σ H → (∀ H', D.rt (.bl true) H') → t D σ H) :
    ∃ t, PSs (lawX P w K mg base f cdv A outer s H0 E) ((defBody sLaw).drop 8) t ∧ ∀ σ H D, LawS4 K C ns σ H → (∀ H', D.rt (.bl true) H') → t D σ H := by
  have nd := scLaw.nd
  have hu := hr.units
  have hr_judge_alike : Room 4 _ := hr.mono (by decide)
  obtain ⟨tR, hR, restR⟩ := rest
  refine ⟨_, (pss_cons (ps_for PassesOwn.never rfl (pi_tup (pe_tup (pa_cons (pe_lst (pa_cons pe_str pa_nil)) (pa_cons (pe_tup (pa_cons pe_str (pa_cons pe_str pa_nil))) (pa_cons (pe_tup (pa_cons pe_str (pa_cons pe_str pa_nil))) (pa_cons (pe_tup (pa_cons pe_str pa_nil)) (pa_cons pe_non pa_nil))))))) (pg_name (i := 19) nd rfl (Or.inl rfl))
        (pss_one (ps_try_only (Wout := fun _ _ _ _ => False) rfl rfl ⟨rfl, by decide, Or.inl T.c_BadKinds⟩ takes0 (fun W pn xe tk _ => (pss_cons (ps_expr (pe_callS G_judge_alike hr_judge_alike (by rfl) A_judge_alike.g A_judge_alike.k b_judge_alike (fun σ => passAt tk σ) (by exact (pa_cons (pv 6) (pa_cons (pv 7) (pa_cons (pv 19) pa_nil))))))
          (pss_one (ps_ret pe_bl)))) (fun a oe cls d pn hz hf => (pss_one (ps_pass))))))
      hR), ?_⟩
  rintro σ H D ⟨a, p1, p2, fr, m1, m2, st1, st2, ks, s1, s2, s3, s4, s5, s9, s10, s11, s12, s13, s14, s15, s16, s17, s18, s19, s20, s21, rfl, B⟩ k
  refine into ?_
  refine for_in (fun tb htb => ?_)
  refine ⟨by show 1 ≤ sizeLine; decide, fun q1 n1 => ⟨by show 2 ≤ sizeLine; decide, fun q2 n2 => ⟨by show 2 ≤ sizeLine; decide, fun q3 n3 => ⟨by show 1 ≤ sizeLine; decide, fun q4 n4 => ⟨by show 5 ≤ sizeLine; decide, fun tt nt => ⟨tt, rfl, ⟨_, SqT.of upd_same⟩, ?_⟩⟩⟩⟩⟩⟩
  have e1 : Same H _ := same_new (o := .lst [V.str (Str.ofString "x")]) n1
  have e2 := same_new (o := .tup [V.str (Str.ofString "y"), V.str (Str.ofString "x")]) n2
  have e3 := same_new (o := .tup [V.str (Str.ofString "x"), V.str (Str.ofString "x")]) n3
  have e4 := same_new (o := .tup [V.str (Str.ofString "X")]) n4
  have e5 := same_new (o := .tup [V.ref q1, V.ref q2, V.ref q3, V.ref q4, V.non]) nt
  have e05 := e1.trans (e2.trans (e3.trans (e4.trans e5)))
  have bads : ∀ v ∈ [V.ref q1, V.ref q2, V.ref q3, V.ref q4, V.non], BadF (upd (upd (upd (upd (upd H q1 (.lst [V.str (Str.ofString "x")])) q2 (.tup [V.str (Str.ofString "y"), V.str (Str.ofString "x")])) q3 (.tup [V.str (Str.ofString "x"), V.str (Str.ofString "x")])) q4 (.tup [V.str (Str.ofString "X")])) tt (.tup [V.ref q1, V.ref q2, V.ref q3, V.ref q4, V.non])) v := fun v hv => by
    simp only [List.mem_cons, List.not_mem_nil, or_false] at hv
    rcases hv with rfl | rfl | rfl | rfl | rfl
    · exact .lst (e5 _ _ (e4 _ _ (e3 _ _ (e2 _ _ upd_same))))
    · exact .desc (e5 _ _ (e4 _ _ (e3 _ _ upd_same))) (by decide +kernel) (by decide +kernel) (by decide +kernel)
    · exact .desc (e5 _ _ (e4 _ _ upd_same)) (by decide +kernel) (by decide +kernel) (by decide +kernel)
    · exact .word (e5 _ _ upd_same) (by decide +kernel) (by decide +kernel)
    · exact .non
  have htt : (upd (upd (upd (upd (upd H q1 (.lst [V.str (Str.ofString "x")])) q2 (.tup [V.str (Str.ofString "y"), V.str (Str.ofString "x")])) q3 (.tup [V.str (Str.ofString "x"), V.str (Str.ofString "x")])) q4 (.tup [V.str (Str.ofString "X")])) tt (.tup [V.ref q1, V.ref q2, V.ref q3, V.ref q4, V.non])) tt = some (.tup [V.ref q1, V.ref q2, V.ref q3, V.ref q4, V.non]) := upd_same
  generalize upd (upd (upd (upd (upd H q1 (.lst [V.str (Str.ofString "x")])) q2 (.tup [V.str (Str.ofString "y"), V.str (Str.ofString "x")])) q3 (.tup [V.str (Str.ofString "x"), V.str (Str.ofString "x")])) q4 (.tup [V.str (Str.ofString "X")])) tt (.tup [V.ref q1, V.ref q2, V.ref q3, V.ref q4, V.non]) = H5 at e05 bads htt
  clear e1 e2 e3 e4 e5 n1 n2 n3 n4 nt
  refine for_tup (xs := [V.ref q1, V.ref q2, V.ref q3, V.ref q4, V.non]) (fun j σ H' => ∃ v19, σ = [some (.ref a), s1, s2, s3, s4, s5, some (.ref p1), some (.ref p2), some (.ref fr), s9, s10, s11, s12, s13, s14, s15, s16, s17, s18, v19, s20, s21] ∧ Same H5 H') ⟨_, rfl, fun b o z => z⟩ (fun j σ H' _ ⟨_, _, e⟩ => SqT.of (e _ _ htt)) ?_ ?_
  · rintro j v σ H6 hv ⟨v19, rfl, e6⟩
    subst htb
    have bad := (bads v (List.mem_of_getElem? hv)).same e6
    refine gN ⟨_, rfl, _, rfl, _, rfl, .ref p1, .ref p2, v, rfl, bad, fun H7 e7 => ⟨true, T.te_BadKinds, fun _ a7 na7 => ?_, fun h => by cases h⟩⟩
    exact ⟨_, rfl, e6.trans e7⟩
  · rintro σ H6 ⟨v19, rfl, e6⟩
    exact restR _ _ D ⟨a, p1, p2, fr, m1, m2, st1, st2, ks, _, _, _, _, _, _, _, _, _, _, _, _, _, _, _, _, _, _, rfl, B.same (e05.trans e6)⟩ k
set_option maxHeartbeats 1000000 in
theorem law_F {fJ : Addr} {fdJ : FuncData} {ns : List Int} (T : TxtLw K mg C CO CA CU CS) (TS : TxtSay P w K mg base CA CU)
    (A_judge_alike : At1 K mg "judge_alike" fJ) (G_judge_alike : FnOk P w K mg base (L2.CX P w) 4 fJ fdJ ["one", "other", "free"] (spJudge C CA CU)) (b_judge_alike : Binds K fdJ ["one", "other", "free"] [])
    (hr : Room 8 (lawX P w K mg base f cdv A outer s H0 E).A) :
    ∃ t, PSs (lawX P w K mg base f cdv A outer s H0 E) ((defBody sLaw).drop 9) t ∧ ∀ σ H D, LawS4 K C ns σ H → (∀ H', D.rt (.bl true) H') → t D σ H := by
  have nd := scLaw.nd
  have hu := hr.units
  have hr_judge_alike : Room 4 _ := hr.mono (by decide)
  have hr_bool : Room 3 _ := hr.mono (by decide)
  refine ⟨_, (pss_one (ps_ret (pe_callTy (call_boolOwn TS.says hr_bool pass0) (by rfl) T.bool (by decide +kernel) (pa_cons (pe_call G_judge_alike hr_judge_alike (by rfl) A_judge_alike.g A_judge_alike.k b_judge_alike .nil passL (pa_cons (pv 6) (pa_cons (pv 6) (pa_cons (pv 8) pa_nil)))) pa_nil)))), ?_⟩
  rintro σ H D ⟨a, p1, p2, fr, m1, m2, st1, st2, ks, s1, s2, s3, s4, s5, s9, s10, s11, s12, s13, s14, s15, s16, s17, s18, s19, s20, s21, rfl, B⟩ k
  have TW := B.two
  refine ⟨_, rfl, _, rfl, _, rfl, p1, p1, fr, m1, m1, st1, st1, ks, rfl, ⟨TW.one, TW.one, TW.ok1, TW.ok1, TW.low1, TW.low1, TW.high1, TW.high1, TW.few1, TW.few1, TW.free, TW.fewk, TW.asc, TW.wk⟩, fun H1 X e1 nX ju => ?_⟩
  have sub1 : ∀ s ∈ opn st1 ks, OkS m1 s := fun s hs => TW.ok1 s (List.mem_filter.mp hs).1
  rcases ju with ⟨dx, l, ps, ws, hX, _⟩ | ⟨dx, l, ps, ws, n, p, u, x, _, _, q, hp, hu', hx, no, _⟩
  · exact ⟨_, rfl, X, CA, dx, _, true, rfl, hX, .inl ⟨rfl, rfl⟩, k _⟩
  · exact absurd (found_diff q hp hu' sub1 sub1 hx no).1 same_not
def spLaw (K : PySem.W.Frag) : Sp := fun vs H Q _ => ∃ (a : Addr) (ns : List Int), vs = [.ref a] ∧ SqL K H a (ns.map V.int) ∧ ns.length ≤ 63 ∧ ∀ H', Q (.bl true) H'
theorem ok_law {fX fM fD fQ fB fF fJ fI fIA fIU fsA fsU : Addr} {fd fdX fdM fdD fdQ fdB fdF fdJ fdI fdIA fdIU fdsA fdsU : FuncData} (F : Fun K "law" "law" sLaw f fd) (T : TxtLw K mg C CO CA CU CS) (TS : TxtSay P w K mg base CA CU)
    (M_Machine : Mk K C fX) (G_Machine : FnOk P w K mg base (L2.CX P w) 4 fX fdX ["self", "many", "steps"] (spMInit K C CB)) (b_Machine : Binds K fdX ["self", "many", "steps"] [])
    (A_law_machine : At1 K mg "_law_machine" fM) (G_law_machine : FnOk P w K mg base CX0 2 fM fdM ["script", "at", "most", "kinds", "words"] (spMach K)) (b_law_machine : Binds K fdM ["script", "at", "most", "kinds", "words"] [])
    (A_law_draw : At1 K mg "_law_draw" fD) (G_law_draw : FnOk P w K mg base CX0 1 fD fdD ["script", "at", "many"] (spDraw K)) (b_law_draw : Binds K fdD ["script", "at", "many"] [])
    (A_law_quiet : At1 K mg "_law_quiet" fQ) (G_law_quiet : FnOk P w K mg base CX0 1 fQ fdQ ["steps", "free", "states"] spQuiet) (b_law_quiet : Binds K fdQ ["steps", "free", "states"] [])
    (A_law_behind : At1 K mg "_law_behind" fB) (G_law_behind : FnOk P w K mg base CX0 2 fB fdB ["steps", "free", "states", "word"] spLBe) (b_law_behind : Binds K fdB ["steps", "free", "states", "word"] [])
    (A_law_first : At1 K mg "_law_first" fF) (G_law_first : FnOk P w K mg base CX0 3 fF fdF ["one", "other", "free"] spFirst) (b_law_first : Binds K fdF ["one", "other", "free"] [])
    (A_judge_alike : At1 K mg "judge_alike" fJ) (G_judge_alike : FnOk P w K mg base (L2.CX P w) 4 fJ fdJ ["one", "other", "free"] (spJudge C CA CU)) (G_judge_bad : FnOk P w K mg base (L2.CX P w) 4 fJ fdJ ["one", "other", "free"] (spJudgeB CS)) (b_judge_alike : Binds K fdJ ["one", "other", "free"] [])
    (A_is_trace : At1 K mg "is_trace" fI) (G_is_trace : FnOk P w K mg base (L2.CX P w) 4 fI fdI ["machine", "trace", "free"] (spIsT C)) (b_is_trace : Binds K fdI ["machine", "trace", "free"] [])
    (M_Alike : Mk K CA fIA) (G_Alike : FnOk P w K mg base CX0 1 fIA fdIA ["self", "pairs"] (spAI CA)) (b_Alike : Binds K fdIA ["self", "pairs"] [])
    (M_Unlike : Mk K CU fIU) (G_Unlike : FnOk P w K mg base CX0 1 fIU fdIU ["self", "trace", "is_first"] (spUI CU)) (b_Unlike : Binds K fdIU ["self", "trace", "is_first"] [])
    (M_shows_Alike : Meth K CA "shows" fsA) (G_shows_Alike : FnOk P w K mg base (L2.CX P w) 5 fsA fdsA ["self", "one", "other", "free"] (spAShows C CA)) (b_shows_Alike : Binds K fdsA ["self", "one", "other", "free"] [])
    (M_shows_Unlike : Meth K CU "shows" fsU) (G_shows_Unlike : FnOk P w K mg base (L2.CX P w) 5 fsU fdsU ["self", "one", "other", "free"] (spUShows C CU)) (b_shows_Unlike : Binds K fdsU ["self", "one", "other", "free"] []) :
    FnOk P w K mg base CX0 9 f fd ["script"] (spLaw K) := by
  refine F.ok scLaw (fun vs H Q E h => ?_) (fun cdv A outer s H vs Q E hr h => ?_)
  · obtain ⟨a, ns, rfl, _⟩ := h
    rfl
  · obtain ⟨a, ns, rfl, hS, hl, k⟩ := h
    have h8 : Room 8 (lawX P w K mg base f cdv A outer s H E).A := hr
    obtain ⟨t, h1, h2⟩ := law_A1 (a := a) (ns := ns) T A_law_machine G_law_machine b_law_machine A_law_draw G_law_draw b_law_draw h8
      (law_A2 (ns := ns) T M_Machine G_Machine b_Machine A_law_draw G_law_draw b_law_draw h8
        (law_B (ns := ns) T TS A_law_first G_law_first b_law_first A_judge_alike G_judge_alike b_judge_alike M_shows_Alike G_shows_Alike b_shows_Alike M_shows_Unlike G_shows_Unlike b_shows_Unlike h8
          (law_C (ns := ns) T TS A_law_quiet G_law_quiet b_law_quiet A_is_trace G_is_trace b_is_trace M_Alike G_Alike b_Alike M_Unlike G_Unlike b_Unlike M_shows_Alike G_shows_Alike b_shows_Alike M_shows_Unlike G_shows_Unlike b_shows_Unlike h8
            (law_D (ns := ns) T A_law_draw G_law_draw b_law_draw A_law_quiet G_law_quiet b_law_quiet A_law_behind G_law_behind b_law_behind A_is_trace G_is_trace b_is_trace h8
              (law_E (ns := ns) T A_judge_alike G_judge_bad b_judge_alike h8 (law_F (ns := ns) T TS A_judge_alike G_judge_alike b_judge_alike h8))))))
    exact ⟨t, h1, h2 _ _ hS hl k⟩
end
theorem from_law {l : PySem.W.OpenLaw} {q : Program} {loose : List Str} {XP : (Str → Option Value) → Heap → Prop} {YP : World → Heap → Prop} {d : DefRec} {K : Params → PySem.W.Frag} (hn : l.most = some 63) (hdf : d.params.defaults = [])
    (hY : ∀ (w : World) (h : Heap), YP w h → (K w.params).In h)
    (facts : ∀ (w : World) (mg : Str → Option Value) (fa : Addr) (h : Heap), (K w.params).In h → h.Ns mainGlobals mg → mg d.name = some (.ref fa) →
      ∃ fd : FuncData, (∀ (s : Shared) (u : Value), BindsTo s fd ⟨[u], []⟩ [("script", u)]) ∧ ∀ base : Heap, (K w.params).In base → base.Ns mainGlobals mg → FnOk l.prog w (K w.params) mg base CX0 9 fa fd ["script"] (spLaw (K w.params))) : PySem.W.WalkO q loose XP YP l.row.toRowW d [] (fun f vs => PySem.call f vs) := L2.walk_of (n := 63) (k := 9) (x := "script") (CX := fun _ => CX0) (sp := fun w => spLaw (K w.params)) hn (by decide) hdf ⟨rfl, by decide, by decide⟩ hY (fun w mg fa h i g e => let ⟨fd, b, c⟩ := facts w mg fa h i g e; ⟨fd, b, c⟩)
    (fun _ _ a ns hl _ hS => ⟨a, ns, rfl, hS, hl, fun _ => rfl⟩) fun _ _ _ _ _ z => z
end K1
end
section
/-! From what the top has written to the law. -/
namespace K1
open PySem L2
theorem names_itself {K : PySem.W.Frag} {S : Addr} (sub : PySem.W.subIn K (.ref S) (.type "BaseException") = some true) (cls : PySem.W.isClsIn K S = true) (typ : PySem.W.typeIn K (.ref S) = some (.type "type")) (same : PySem.W.subIn K (.ref S) (.ref S) = some true) : PySem.W.exmOne K (.ref S) (.ref S) = some true := by
  have known : (PySem.W.clsIn K S).isSome = true := cls
  simp [PySem.W.exmOne, PySem.W.kitCls, sub, known, typ, same]
theorem kit_own {K : PySem.W.Frag} {t : Value} {C : Addr} {v : Bool} (hd : PySem.W.hasDictIn K C = true) (ty : PySem.W.typeIn K (.ref C) = some (.type "type")) (su : PySem.W.subIn K t (.ref C) = some v) (ne : (t == .ref C) = true → v = true) : PySem.W.kitOne K t (.ref C) = some v := by
  obtain ⟨cd, hc, _⟩ := PySem.W.any_some hd
  have e2 : ((PySem.W.clsIn K C).isSome && PySem.W.typeIn K (.ref C) == some (.type "type")) = true := by rw [hc, ty] <;> rfl
  unfold PySem.W.kitOne
  split
  · rename_i h; rw [ne h]
  · show (if ((PySem.W.clsIn K C).isSome && PySem.W.typeIn K (.ref C) == some (.type "type")) = true then PySem.W.subIn K t (.ref C) else none) = some v
    rw [if_pos e2]; exact su
theorem ref_ne {a b : Addr} (h : a ≠ b) : (Value.ref a == Value.ref b) = true → false = true := fun z => absurd (by simpa using z) h

set_option maxHeartbeats 4000000 in
theorem all_mk {l : PySem.W.OpenLaw} {w : World} {K : PySem.W.Frag} {h : Heap} {mg : Str → Option Value} {fa : Addr} {CM CO CA CU fMInit fMLen fOInit fSpread fAfter fWa fAI fAB fAS fUI fUB fUS fNum fWord fWordE fIsStep fState fSts fOpen fOut fAsc fFree fIsT fGo fJu fTr fDraw fMach fQu fLBe fLF fLaw CK CB fB cdaB ccB NB : Addr}
    {ocMInit kVMInit dcMInit pmMInit cdMInit ctMInit : Value} {odMInit anMInit : Option Addr} {slMInit : Array (Option Value)}
    {ocMLen kVMLen dcMLen pmMLen cdMLen ctMLen : Value} {odMLen anMLen : Option Addr} {slMLen : Array (Option Value)}
    {ocOInit kVOInit dcOInit pmOInit cdOInit ctOInit : Value} {odOInit anOInit : Option Addr} {slOInit : Array (Option Value)}
    {ocSpread kVSpread dcSpread pmSpread cdSpread ctSpread : Value} {odSpread anSpread : Option Addr} {slSpread : Array (Option Value)}
    {ocAfter kVAfter dcAfter pmAfter cdAfter ctAfter : Value} {odAfter anAfter : Option Addr} {slAfter : Array (Option Value)}
    {ocWa kVWa dcWa pmWa cdWa ctWa : Value} {odWa anWa : Option Addr} {slWa : Array (Option Value)}
    {ocAI kVAI dcAI pmAI cdAI ctAI : Value} {odAI anAI : Option Addr} {slAI : Array (Option Value)}
    {ocAB kVAB dcAB pmAB cdAB ctAB : Value} {odAB anAB : Option Addr} {slAB : Array (Option Value)}
    {ocAS kVAS dcAS pmAS cdAS ctAS : Value} {odAS anAS : Option Addr} {slAS : Array (Option Value)}
    {ocUI kVUI dcUI pmUI cdUI ctUI : Value} {odUI anUI : Option Addr} {slUI : Array (Option Value)}
    {ocUB kVUB dcUB pmUB cdUB ctUB : Value} {odUB anUB : Option Addr} {slUB : Array (Option Value)}
    {ocUS kVUS dcUS pmUS cdUS ctUS : Value} {odUS anUS : Option Addr} {slUS : Array (Option Value)}
    {ocNum kVNum dcNum pmNum cdNum ctNum : Value} {odNum anNum : Option Addr} {slNum : Array (Option Value)}
    {ocWord kVWord dcWord pmWord cdWord ctWord : Value} {odWord anWord : Option Addr} {slWord : Array (Option Value)}
    {ocWordE kVWordE dcWordE pmWordE cdWordE ctWordE : Value} {odWordE anWordE : Option Addr} {slWordE : Array (Option Value)}
    {ocIsStep kVIsStep dcIsStep pmIsStep cdIsStep ctIsStep : Value} {odIsStep anIsStep : Option Addr} {slIsStep : Array (Option Value)}
    {ocState kVState dcState pmState cdState ctState : Value} {odState anState : Option Addr} {slState : Array (Option Value)}
    {ocSts kVSts dcSts pmSts cdSts ctSts : Value} {odSts anSts : Option Addr} {slSts : Array (Option Value)}
    {ocOpen kVOpen dcOpen pmOpen cdOpen ctOpen : Value} {odOpen anOpen : Option Addr} {slOpen : Array (Option Value)}
    {ocOut kVOut dcOut pmOut cdOut ctOut : Value} {odOut anOut : Option Addr} {slOut : Array (Option Value)}
    {ocAsc kVAsc dcAsc pmAsc cdAsc ctAsc : Value} {odAsc anAsc : Option Addr} {slAsc : Array (Option Value)}
    {ocFree kVFree dcFree pmFree cdFree ctFree : Value} {odFree anFree : Option Addr} {slFree : Array (Option Value)}
    {ocIsT kVIsT dcIsT pmIsT cdIsT ctIsT : Value} {odIsT anIsT : Option Addr} {slIsT : Array (Option Value)}
    {ocGo kVGo dcGo pmGo cdGo ctGo : Value} {odGo anGo : Option Addr} {slGo : Array (Option Value)}
    {ocJu kVJu dcJu pmJu cdJu ctJu : Value} {odJu anJu : Option Addr} {slJu : Array (Option Value)}
    {ocTr kVTr dcTr pmTr cdTr ctTr : Value} {odTr anTr : Option Addr} {slTr : Array (Option Value)}
    {ocDraw kVDraw dcDraw pmDraw cdDraw ctDraw : Value} {odDraw anDraw : Option Addr} {slDraw : Array (Option Value)}
    {ocMach kVMach dcMach pmMach cdMach ctMach : Value} {odMach anMach : Option Addr} {slMach : Array (Option Value)}
    {ocQu kVQu dcQu pmQu cdQu ctQu : Value} {odQu anQu : Option Addr} {slQu : Array (Option Value)}
    {ocLBe kVLBe dcLBe pmLBe cdLBe ctLBe : Value} {odLBe anLBe : Option Addr} {slLBe : Array (Option Value)}
    {ocLF kVLF dcLF pmLF cdLF ctLF : Value} {odLF anLF : Option Addr} {slLF : Array (Option Value)}
    {ocLaw kVLaw dcLaw pmLaw cdLaw ctLaw : Value} {odLaw anLaw : Option Addr} {slLaw : Array (Option Value)}
    {nmB qB : Str} {bsB : List Value} {snB : List Str} {subB : List Value} {abB : Bool} {colB : Option Bool} {ddB odB anB cddB cldB : Option Addr} {j0B j1B j2B j3B j5B : Option Value} {ocB dcB pmB ctB cclB clB : Value} {slB ccsB cslB : Array (Option Value)} {vsB : Array Value} {fileB : Str} {tfB : Tok} {b1B : Addr}
    {tM : Nat}
    (X : K.In h) (G : h.Ns mainGlobals mg) (hfa : mg "law" = some (.ref fa))
    (gM : PySem.W.nsIn K mainGlobals "Machine" = some (some (.ref CM)))
    (pgM : PySem.W.plainGet K CM Str.empty = true)
    (hdM : PySem.W.hasDictIn K CM = true)
    (poM : PySem.W.plainOver K CM = true)
    (saM : PySem.W.findIn K (.ref CM) "__setattr__" = some (some (.builtin "object.__setattr__")))
    (mkM : PySem.W.makesIn K CM = true)
    (kcM : PySem.W.keepIn K (.ref CM) = true)
    (nMmany : PySem.W.findIn K (.ref CM) "many" = some none)
    (nMsteps : PySem.W.findIn K (.ref CM) "steps" = some none)
    (nMkinds : PySem.W.findIn K (.ref CM) "kinds" = some none)
    (nMwords : PySem.W.findIn K (.ref CM) "words" = some none)
    (nMby_state : PySem.W.findIn K (.ref CM) "by_state" = some none)
    (nM_known : PySem.W.findIn K (.ref CM) "_known" = some none)
    (gO : PySem.W.nsIn K mainGlobals "Outlook" = some (some (.ref CO)))
    (pgO : PySem.W.plainGet K CO Str.empty = true)
    (hdO : PySem.W.hasDictIn K CO = true)
    (poO : PySem.W.plainOver K CO = true)
    (saO : PySem.W.findIn K (.ref CO) "__setattr__" = some (some (.builtin "object.__setattr__")))
    (mkO : PySem.W.makesIn K CO = true)
    (kcO : PySem.W.keepIn K (.ref CO) = true)
    (nOunseen : PySem.W.findIn K (.ref CO) "unseen" = some none)
    (nOby_word : PySem.W.findIn K (.ref CO) "by_word" = some none)
    (gA : PySem.W.nsIn K mainGlobals "Alike" = some (some (.ref CA)))
    (pgA : PySem.W.plainGet K CA Str.empty = true)
    (hdA : PySem.W.hasDictIn K CA = true)
    (poA : PySem.W.plainOver K CA = true)
    (saA : PySem.W.findIn K (.ref CA) "__setattr__" = some (some (.builtin "object.__setattr__")))
    (mkA : PySem.W.makesIn K CA = true)
    (kcA : PySem.W.keepIn K (.ref CA) = true)
    (nApairs : PySem.W.findIn K (.ref CA) "pairs" = some none)
    (gU : PySem.W.nsIn K mainGlobals "Unlike" = some (some (.ref CU)))
    (pgU : PySem.W.plainGet K CU Str.empty = true)
    (hdU : PySem.W.hasDictIn K CU = true)
    (poU : PySem.W.plainOver K CU = true)
    (saU : PySem.W.findIn K (.ref CU) "__setattr__" = some (some (.builtin "object.__setattr__")))
    (mkU : PySem.W.makesIn K CU = true)
    (kcU : PySem.W.keepIn K (.ref CU) = true)
    (nUtrace : PySem.W.findIn K (.ref CU) "trace" = some none)
    (nUis_first : PySem.W.findIn K (.ref CU) "is_first" = some none)
    (hnO : PySem.W.specialIn K (.builtin "object.__class__") "__get__" = some (some (.builtin "getset_descriptor.__get__")))
    (htO : PySem.W.takesIn K (.builtin "object.__class__") = some true)
    (haA : PySem.W.findIn K (.ref CA) "__class__" = some (some (.builtin "object.__class__")))
    (obA : PySem.W.mroIn K CA (.type "object") = some true)
    (haU : PySem.W.findIn K (.ref CU) "__class__" = some (some (.builtin "object.__class__")))
    (obU : PySem.W.mroIn K CU (.type "object") = some true)
    (tyU : PySem.W.typeIn K (.ref CU) = some (.type "type"))
    (sAU : PySem.W.subIn K (.ref CA) (.ref CU) = some false)
    (sUU : PySem.W.subIn K (.ref CU) (.ref CU) = some true)
    (nAU : CA ≠ CU)
    (aMInit : PySem.W.findIn K (.ref CM) "__init__" = some (some (.ref fMInit)))
    (iMInit : PySem.W.isFn K (.ref fMInit) = true)
    (lMInit : K.lookup fMInit = some ⟨ocMInit, odMInit, .func (PySem.W.fnOf "__init__" "Machine.__init__" (defArgs sMInit) (defBody sMInit) (defScope sMInit) .none kVMInit dcMInit pmMInit anMInit cdMInit ctMInit), slMInit⟩)
    (cMInit : PySem.W.codeIn K cdMInit "Machine.__init__" = true)
    (kMInit : PySem.W.keepIn K (.ref fMInit) = true)
    (aMLen : PySem.W.findIn K (.ref CM) "__len__" = some (some (.ref fMLen)))
    (iMLen : PySem.W.isFn K (.ref fMLen) = true)
    (lMLen : K.lookup fMLen = some ⟨ocMLen, odMLen, .func (PySem.W.fnOf "__len__" "Machine.__len__" (defArgs sMLen) (defBody sMLen) (defScope sMLen) .none kVMLen dcMLen pmMLen anMLen cdMLen ctMLen), slMLen⟩)
    (cMLen : PySem.W.codeIn K cdMLen "Machine.__len__" = true)
    (kMLen : PySem.W.keepIn K (.ref fMLen) = true)
    (aOInit : PySem.W.findIn K (.ref CO) "__init__" = some (some (.ref fOInit)))
    (iOInit : PySem.W.isFn K (.ref fOInit) = true)
    (lOInit : K.lookup fOInit = some ⟨ocOInit, odOInit, .func (PySem.W.fnOf "__init__" "Outlook.__init__" (defArgs sOInit) (defBody sOInit) (defScope sOInit) .none kVOInit dcOInit pmOInit anOInit cdOInit ctOInit), slOInit⟩)
    (cOInit : PySem.W.codeIn K cdOInit "Outlook.__init__" = true)
    (kOInit : PySem.W.keepIn K (.ref fOInit) = true)
    (aSpread : PySem.W.findIn K (.ref CO) "spread" = some (some (.ref fSpread)))
    (iSpread : PySem.W.isFn K (.ref fSpread) = true)
    (lSpread : K.lookup fSpread = some ⟨ocSpread, odSpread, .func (PySem.W.fnOf "spread" "Outlook.spread" (defArgs sSpread) (defBody sSpread) (defScope sSpread) .none kVSpread dcSpread pmSpread anSpread cdSpread ctSpread), slSpread⟩)
    (cSpread : PySem.W.codeIn K cdSpread "Outlook.spread" = true)
    (kSpread : PySem.W.keepIn K (.ref fSpread) = true)
    (aAfter : PySem.W.findIn K (.ref CO) "after" = some (some (.ref fAfter)))
    (iAfter : PySem.W.isFn K (.ref fAfter) = true)
    (lAfter : K.lookup fAfter = some ⟨ocAfter, odAfter, .func (PySem.W.fnOf "after" "Outlook.after" (defArgs sAfter) (defBody sAfter) (defScope sAfter) .none kVAfter dcAfter pmAfter anAfter cdAfter ctAfter), slAfter⟩)
    (cAfter : PySem.W.codeIn K cdAfter "Outlook.after" = true)
    (kAfter : PySem.W.keepIn K (.ref fAfter) = true)
    (aWa : PySem.W.findIn K (.ref CO) "words_at" = some (some (.ref fWa)))
    (iWa : PySem.W.isFn K (.ref fWa) = true)
    (lWa : K.lookup fWa = some ⟨ocWa, odWa, .func (PySem.W.fnOf "words_at" "Outlook.words_at" (defArgs sWa) (defBody sWa) (defScope sWa) .none kVWa dcWa pmWa anWa cdWa ctWa), slWa⟩)
    (cWa : PySem.W.codeIn K cdWa "Outlook.words_at" = true)
    (kWa : PySem.W.keepIn K (.ref fWa) = true)
    (aAI : PySem.W.findIn K (.ref CA) "__init__" = some (some (.ref fAI)))
    (iAI : PySem.W.isFn K (.ref fAI) = true)
    (lAI : K.lookup fAI = some ⟨ocAI, odAI, .func (PySem.W.fnOf "__init__" "Alike.__init__" (defArgs sAI) (defBody sAI) (defScope sAI) .none kVAI dcAI pmAI anAI cdAI ctAI), slAI⟩)
    (cAI : PySem.W.codeIn K cdAI "Alike.__init__" = true)
    (kAI : PySem.W.keepIn K (.ref fAI) = true)
    (aAB : PySem.W.findIn K (.ref CA) "__bool__" = some (some (.ref fAB)))
    (iAB : PySem.W.isFn K (.ref fAB) = true)
    (lAB : K.lookup fAB = some ⟨ocAB, odAB, .func (PySem.W.fnOf "__bool__" "Alike.__bool__" (defArgs sAB) (defBody sAB) (defScope sAB) .none kVAB dcAB pmAB anAB cdAB ctAB), slAB⟩)
    (cAB : PySem.W.codeIn K cdAB "Alike.__bool__" = true)
    (kAB : PySem.W.keepIn K (.ref fAB) = true)
    (aAS : PySem.W.findIn K (.ref CA) "shows" = some (some (.ref fAS)))
    (iAS : PySem.W.isFn K (.ref fAS) = true)
    (lAS : K.lookup fAS = some ⟨ocAS, odAS, .func (PySem.W.fnOf "shows" "Alike.shows" (defArgs sAS) (defBody sAS) (defScope sAS) .none kVAS dcAS pmAS anAS cdAS ctAS), slAS⟩)
    (cAS : PySem.W.codeIn K cdAS "Alike.shows" = true)
    (kAS : PySem.W.keepIn K (.ref fAS) = true)
    (aUI : PySem.W.findIn K (.ref CU) "__init__" = some (some (.ref fUI)))
    (iUI : PySem.W.isFn K (.ref fUI) = true)
    (lUI : K.lookup fUI = some ⟨ocUI, odUI, .func (PySem.W.fnOf "__init__" "Unlike.__init__" (defArgs sUI) (defBody sUI) (defScope sUI) .none kVUI dcUI pmUI anUI cdUI ctUI), slUI⟩)
    (cUI : PySem.W.codeIn K cdUI "Unlike.__init__" = true)
    (kUI : PySem.W.keepIn K (.ref fUI) = true)
    (aUB : PySem.W.findIn K (.ref CU) "__bool__" = some (some (.ref fUB)))
    (iUB : PySem.W.isFn K (.ref fUB) = true)
    (lUB : K.lookup fUB = some ⟨ocUB, odUB, .func (PySem.W.fnOf "__bool__" "Unlike.__bool__" (defArgs sUB) (defBody sUB) (defScope sUB) .none kVUB dcUB pmUB anUB cdUB ctUB), slUB⟩)
    (cUB : PySem.W.codeIn K cdUB "Unlike.__bool__" = true)
    (kUB : PySem.W.keepIn K (.ref fUB) = true)
    (aUS : PySem.W.findIn K (.ref CU) "shows" = some (some (.ref fUS)))
    (iUS : PySem.W.isFn K (.ref fUS) = true)
    (lUS : K.lookup fUS = some ⟨ocUS, odUS, .func (PySem.W.fnOf "shows" "Unlike.shows" (defArgs sUS) (defBody sUS) (defScope sUS) .none kVUS dcUS pmUS anUS cdUS ctUS), slUS⟩)
    (cUS : PySem.W.codeIn K cdUS "Unlike.shows" = true)
    (kUS : PySem.W.keepIn K (.ref fUS) = true)
    (aNum : PySem.W.nsIn K mainGlobals "is_number" = some (some (.ref fNum)))
    (lNum : K.lookup fNum = some ⟨ocNum, odNum, .func (PySem.W.fnOf "is_number" "is_number" (defArgs sNum) (defBody sNum) (defScope sNum) .none kVNum dcNum pmNum anNum cdNum ctNum), slNum⟩)
    (cNum : PySem.W.codeIn K cdNum "is_number" = true)
    (kNum : PySem.W.keepIn K (.ref fNum) = true)
    (aWord : PySem.W.nsIn K mainGlobals "is_word" = some (some (.ref fWord)))
    (lWord : K.lookup fWord = some ⟨ocWord, odWord, .func (PySem.W.fnOf "is_word" "is_word" (defArgs sWord) (defBody sWord) (defScope sWord) .none kVWord dcWord pmWord anWord cdWord ctWord), slWord⟩)
    (cWord : PySem.W.codeIn K cdWord "is_word" = true)
    (kWord : PySem.W.keepIn K (.ref fWord) = true)
    (aWordE : PySem.W.nsIn K mainGlobals "is_word_or_empty" = some (some (.ref fWordE)))
    (lWordE : K.lookup fWordE = some ⟨ocWordE, odWordE, .func (PySem.W.fnOf "is_word_or_empty" "is_word_or_empty" (defArgs sWordE) (defBody sWordE) (defScope sWordE) .none kVWordE dcWordE pmWordE anWordE cdWordE ctWordE), slWordE⟩)
    (cWordE : PySem.W.codeIn K cdWordE "is_word_or_empty" = true)
    (kWordE : PySem.W.keepIn K (.ref fWordE) = true)
    (aIsStep : PySem.W.nsIn K mainGlobals "is_step" = some (some (.ref fIsStep)))
    (lIsStep : K.lookup fIsStep = some ⟨ocIsStep, odIsStep, .func (PySem.W.fnOf "is_step" "is_step" (defArgs sIsStep) (defBody sIsStep) (defScope sIsStep) .none kVIsStep dcIsStep pmIsStep anIsStep cdIsStep ctIsStep), slIsStep⟩)
    (cIsStep : PySem.W.codeIn K cdIsStep "is_step" = true)
    (kIsStep : PySem.W.keepIn K (.ref fIsStep) = true)
    (aState : PySem.W.nsIn K mainGlobals "is_state" = some (some (.ref fState)))
    (lState : K.lookup fState = some ⟨ocState, odState, .func (PySem.W.fnOf "is_state" "is_state" (defArgs sState) (defBody sState) (defScope sState) .none kVState dcState pmState anState cdState ctState), slState⟩)
    (cState : PySem.W.codeIn K cdState "is_state" = true)
    (kState : PySem.W.keepIn K (.ref fState) = true)
    (aSts : PySem.W.nsIn K mainGlobals "are_states" = some (some (.ref fSts)))
    (lSts : K.lookup fSts = some ⟨ocSts, odSts, .func (PySem.W.fnOf "are_states" "are_states" (defArgs sSs) (defBody sSs) (defScope sSs) .none kVSts dcSts pmSts anSts cdSts ctSts), slSts⟩)
    (cSts : PySem.W.codeIn K cdSts "are_states" = true)
    (kSts : PySem.W.keepIn K (.ref fSts) = true)
    (aOpen : PySem.W.nsIn K mainGlobals "open_steps" = some (some (.ref fOpen)))
    (lOpen : K.lookup fOpen = some ⟨ocOpen, odOpen, .func (PySem.W.fnOf "open_steps" "open_steps" (defArgs sOpen) (defBody sOpen) (defScope sOpen) .none kVOpen dcOpen pmOpen anOpen cdOpen ctOpen), slOpen⟩)
    (cOpen : PySem.W.codeIn K cdOpen "open_steps" = true)
    (kOpen : PySem.W.keepIn K (.ref fOpen) = true)
    (aOut : PySem.W.nsIn K mainGlobals "outlook_of" = some (some (.ref fOut)))
    (lOut : K.lookup fOut = some ⟨ocOut, odOut, .func (PySem.W.fnOf "outlook_of" "outlook_of" (defArgs sOut) (defBody sOut) (defScope sOut) .none kVOut dcOut pmOut anOut cdOut ctOut), slOut⟩)
    (cOut : PySem.W.codeIn K cdOut "outlook_of" = true)
    (kOut : PySem.W.keepIn K (.ref fOut) = true)
    (aAsc : PySem.W.nsIn K mainGlobals "is_ascending" = some (some (.ref fAsc)))
    (lAsc : K.lookup fAsc = some ⟨ocAsc, odAsc, .func (PySem.W.fnOf "is_ascending" "is_ascending" (defArgs sAsc) (defBody sAsc) (defScope sAsc) .none kVAsc dcAsc pmAsc anAsc cdAsc ctAsc), slAsc⟩)
    (cAsc : PySem.W.codeIn K cdAsc "is_ascending" = true)
    (kAsc : PySem.W.keepIn K (.ref fAsc) = true)
    (aFree : PySem.W.nsIn K mainGlobals "check_free" = some (some (.ref fFree)))
    (lFree : K.lookup fFree = some ⟨ocFree, odFree, .func (PySem.W.fnOf "check_free" "check_free" (defArgs sFree) (defBody sFree) (defScope sFree) .none kVFree dcFree pmFree anFree cdFree ctFree), slFree⟩)
    (cFree : PySem.W.codeIn K cdFree "check_free" = true)
    (kFree : PySem.W.keepIn K (.ref fFree) = true)
    (aIsT : PySem.W.nsIn K mainGlobals "is_trace" = some (some (.ref fIsT)))
    (lIsT : K.lookup fIsT = some ⟨ocIsT, odIsT, .func (PySem.W.fnOf "is_trace" "is_trace" (defArgs sIsT) (defBody sIsT) (defScope sIsT) .none kVIsT dcIsT pmIsT anIsT cdIsT ctIsT), slIsT⟩)
    (cIsT : PySem.W.codeIn K cdIsT "is_trace" = true)
    (kIsT : PySem.W.keepIn K (.ref fIsT) = true)
    (aGo : PySem.W.nsIn K mainGlobals "goes_on_alike" = some (some (.ref fGo)))
    (lGo : K.lookup fGo = some ⟨ocGo, odGo, .func (PySem.W.fnOf "goes_on_alike" "goes_on_alike" (defArgs sGo) (defBody sGo) (defScope sGo) .none kVGo dcGo pmGo anGo cdGo ctGo), slGo⟩)
    (cGo : PySem.W.codeIn K cdGo "goes_on_alike" = true)
    (kGo : PySem.W.keepIn K (.ref fGo) = true)
    (aJu : PySem.W.nsIn K mainGlobals "judge_alike" = some (some (.ref fJu)))
    (lJu : K.lookup fJu = some ⟨ocJu, odJu, .func (PySem.W.fnOf "judge_alike" "judge_alike" (defArgs sJu) (defBody sJu) (defScope sJu) .none kVJu dcJu pmJu anJu cdJu ctJu), slJu⟩)
    (cJu : PySem.W.codeIn K cdJu "judge_alike" = true)
    (kJu : PySem.W.keepIn K (.ref fJu) = true)
    (aTr : PySem.W.nsIn K mainGlobals "trace_to" = some (some (.ref fTr)))
    (lTr : K.lookup fTr = some ⟨ocTr, odTr, .func (PySem.W.fnOf "trace_to" "trace_to" (defArgs sTr) (defBody sTr) (defScope sTr) .none kVTr dcTr pmTr anTr cdTr ctTr), slTr⟩)
    (cTr : PySem.W.codeIn K cdTr "trace_to" = true)
    (kTr : PySem.W.keepIn K (.ref fTr) = true)
    (aDraw : PySem.W.nsIn K mainGlobals "_law_draw" = some (some (.ref fDraw)))
    (lDraw : K.lookup fDraw = some ⟨ocDraw, odDraw, .func (PySem.W.fnOf "_law_draw" "_law_draw" (defArgs sDraw) (defBody sDraw) (defScope sDraw) .none kVDraw dcDraw pmDraw anDraw cdDraw ctDraw), slDraw⟩)
    (cDraw : PySem.W.codeIn K cdDraw "_law_draw" = true)
    (kDraw : PySem.W.keepIn K (.ref fDraw) = true)
    (aMach : PySem.W.nsIn K mainGlobals "_law_machine" = some (some (.ref fMach)))
    (lMach : K.lookup fMach = some ⟨ocMach, odMach, .func (PySem.W.fnOf "_law_machine" "_law_machine" (defArgs sMach) (defBody sMach) (defScope sMach) .none kVMach dcMach pmMach anMach cdMach ctMach), slMach⟩)
    (cMach : PySem.W.codeIn K cdMach "_law_machine" = true)
    (kMach : PySem.W.keepIn K (.ref fMach) = true)
    (aQu : PySem.W.nsIn K mainGlobals "_law_quiet" = some (some (.ref fQu)))
    (lQu : K.lookup fQu = some ⟨ocQu, odQu, .func (PySem.W.fnOf "_law_quiet" "_law_quiet" (defArgs sQu) (defBody sQu) (defScope sQu) .none kVQu dcQu pmQu anQu cdQu ctQu), slQu⟩)
    (cQu : PySem.W.codeIn K cdQu "_law_quiet" = true)
    (kQu : PySem.W.keepIn K (.ref fQu) = true)
    (aLBe : PySem.W.nsIn K mainGlobals "_law_behind" = some (some (.ref fLBe)))
    (lLBe : K.lookup fLBe = some ⟨ocLBe, odLBe, .func (PySem.W.fnOf "_law_behind" "_law_behind" (defArgs sLBe) (defBody sLBe) (defScope sLBe) .none kVLBe dcLBe pmLBe anLBe cdLBe ctLBe), slLBe⟩)
    (cLBe : PySem.W.codeIn K cdLBe "_law_behind" = true)
    (kLBe : PySem.W.keepIn K (.ref fLBe) = true)
    (aLF : PySem.W.nsIn K mainGlobals "_law_first" = some (some (.ref fLF)))
    (lLF : K.lookup fLF = some ⟨ocLF, odLF, .func (PySem.W.fnOf "_law_first" "_law_first" (defArgs sLF) (defBody sLF) (defScope sLF) .none kVLF dcLF pmLF anLF cdLF ctLF), slLF⟩)
    (cLF : PySem.W.codeIn K cdLF "_law_first" = true)
    (kLF : PySem.W.keepIn K (.ref fLF) = true)
    (aLaw : PySem.W.nsIn K mainGlobals "law" = some (some (.ref fLaw)))
    (lLaw : K.lookup fLaw = some ⟨ocLaw, odLaw, .func (PySem.W.fnOf "law" "law" (defArgs sLaw) (defBody sLaw) (defScope sLaw) .none kVLaw dcLaw pmLaw anLaw cdLaw ctLaw), slLaw⟩)
    (cLaw : PySem.W.codeIn K cdLaw "law" = true)
    (kLaw : PySem.W.keepIn K (.ref fLaw) = true)
    (gK : PySem.W.nsIn K mainGlobals "BadKinds" = some (some (.ref CK)))
    (xK : PySem.W.excIn K CK [.type "ValueError", .type "Exception", .type "BaseException", .type "object"] "ValueError.__new__" = true)
    (kcK : PySem.W.keepIn K (.ref CK) = true)
    (bK : PySem.W.subIn K (.ref CK) (.type "BaseException") = some true)
    (tK : PySem.W.typeIn K (.ref CK) = some (.type "type"))
    (iK : PySem.W.isClsIn K CK = true)
    (sK : PySem.W.subIn K (.ref CK) (.ref CK) = some true)
    (gB : PySem.W.nsIn K mainGlobals "BadMachine" = some (some (.ref CB)))
    (xB : K.lookup CB = some (excClassObj nmB qB CB NB bsB [.ref b1B, .type "ValueError", .type "Exception", .type "BaseException", .type "object"] true snB subB abB colB ddB j0B j1B j2B j3B j5B "ValueError.__new__"))
    (saB : PySem.W.findIn K (.ref CB) "__setattr__" = some (some (.builtin "object.__setattr__")))
    (gaB : PySem.W.findIn K (.ref CB) "__getattribute__" = some (some (.builtin "BaseException.__getattribute__")))
    (ggB : PySem.W.findIn K (.ref CB) "__getattr__" = some none)
    (noB : PySem.W.findIn K (.ref CB) "place" = some none)
    (aB : PySem.W.findIn K (.ref CB) "__init__" = some (some (.ref fB)))
    (tB : PySem.W.typeIn K (.ref fB) = some (.type "function"))
    (kcB : PySem.W.keepIn K (.ref CB) = true)
    (eB : PySem.W.subIn K (.ref CB) (.type "BaseException") = some true)
    (vB : PySem.W.subIn K (.ref CB) (.type "ValueError") = some true)
    (yB : PySem.W.typeIn K (.ref CB) = some (.type "type"))
    (hdB : PySem.W.hasDictIn K CB = true)
    (iB : PySem.W.isClsIn K CB = true)
    (sB : PySem.W.subIn K (.ref CB) (.ref CB) = some true)
    (suB : PySem.W.ks_superIn K CB CB "__init__" = some (some (.builtin "ValueError.__init__")))
    (exB : PySem.W.excInitIn K CB PySem.HandSPX.veTail "ValueError.__new__" = true)
    (seB : PySem.W.mroIn K CB (.ref CB) = some true)
    (lB : K.lookup fB = some ⟨ocB, odB, .func (PySem.W.ksFn "__init__" "BadMachine.__init__" (PySem.PlX.args ⟨9, 17, 9, 21⟩ ⟨9, 23, 9, 28⟩) (PySem.PlX.body "not a machine, place " ⟨⟨10, 27, 10, 48⟩, ⟨10, 49, 10, 54⟩, ⟨10, 48, 10, 55⟩, ⟨10, 25, 10, 56⟩, ⟨10, 8, 10, 13⟩, ⟨10, 8, 10, 15⟩, ⟨10, 8, 10, 24⟩, ⟨10, 8, 10, 57⟩, ⟨10, 8, 10, 57⟩, ⟨11, 8, 11, 12⟩, ⟨11, 8, 11, 18⟩, ⟨11, 21, 11, 26⟩, ⟨11, 8, 11, 26⟩⟩) PySem.PlX.scope .none .none dcB pmB anB (.ref cdaB) ctB ccB), slB⟩)
    (cB : PySem.W.codeIn K (.ref cdaB) "BadMachine.__init__" = true)
    (dB : K.lookup cdaB = some ⟨cclB, cddB, .fields vsB, ccsB⟩)
    (vfB : vsB[2]? = some (.str fileB tfB))
    (pfB : ((l.prog.main.file : Str) == fileB) = true)
    (ceB : K.lookup ccB = some ⟨clB, cldB, .cell (some (.ref CB)), cslB⟩)
    (z_type : PySem.W.nsIn K mainGlobals "type" = some none)
    (z_int : PySem.W.nsIn K mainGlobals "int" = some none)
    (z_str : PySem.W.nsIn K mainGlobals "str" = some none)
    (z_isinstance : PySem.W.nsIn K mainGlobals "isinstance" = some none)
    (z_len : PySem.W.nsIn K mainGlobals "len" = some none)
    (z_list : PySem.W.nsIn K mainGlobals "list" = some none)
    (z_tuple : PySem.W.nsIn K mainGlobals "tuple" = some none)
    (z_enumerate : PySem.W.nsIn K mainGlobals "enumerate" = some none)
    (z_sorted : PySem.W.nsIn K mainGlobals "sorted" = some none)
    (z_set : PySem.W.nsIn K mainGlobals "set" = some none)
    (z_range : PySem.W.nsIn K mainGlobals "range" = some none)
    (z_all : PySem.W.nsIn K mainGlobals "all" = some none)
    (z_zip : PySem.W.nsIn K mainGlobals "zip" = some none)
    (z_bool : PySem.W.nsIn K mainGlobals "bool" = some none)
    (z_super : PySem.W.nsIn K mainGlobals "super" = some none)
    (z_opq : PySem.W.nsIn K cStatics "thirdparty.any" = some none)
    (z_top : (l.prog.main.scope.names.lookup ("super" : Str)).isSome = false)
    (z_most : PySem.W.nsIn K mainGlobals "MOST_STATES" = some (some (.int 3000 tM))) :
    ∃ fd : FuncData, (∀ (s : Shared) (u : Value), BindsTo s fd ⟨[u], []⟩ [("script", u)]) ∧ ∀ base : Heap, K.In base → base.Ns mainGlobals mg → FnOk l.prog w K mg base CX0 9 fa fd ["script"] (spLaw K) := by
  have e := hfa.symm.trans (PySem.W.mg_of X G aLaw)
  cases e
  have w_type := PySem.W.mg_none_of X G z_type
  have w_int := PySem.W.mg_none_of X G z_int
  have w_str := PySem.W.mg_none_of X G z_str
  have w_isinstance := PySem.W.mg_none_of X G z_isinstance
  have w_len := PySem.W.mg_none_of X G z_len
  have w_list := PySem.W.mg_none_of X G z_list
  have w_tuple := PySem.W.mg_none_of X G z_tuple
  have w_enumerate := PySem.W.mg_none_of X G z_enumerate
  have w_sorted := PySem.W.mg_none_of X G z_sorted
  have w_set := PySem.W.mg_none_of X G z_set
  have w_range := PySem.W.mg_none_of X G z_range
  have w_all := PySem.W.mg_none_of X G z_all
  have w_zip := PySem.W.mg_none_of X G z_zip
  have w_bool := PySem.W.mg_none_of X G z_bool
  have w_super := PySem.W.mg_none_of X G z_super
  have m_M := PySem.W.mg_of X G gM
  have m_O := PySem.W.mg_of X G gO
  have m_A := PySem.W.mg_of X G gA
  have m_U := PySem.W.mg_of X G gU
  have m_K := PySem.W.mg_of X G gK
  have m_B := PySem.W.mg_of X G gB
  have m_most := PySem.W.mg_of X G z_most
  have m_Num := PySem.W.mg_of X G aNum
  have m_Word := PySem.W.mg_of X G aWord
  have m_WordE := PySem.W.mg_of X G aWordE
  have m_IsStep := PySem.W.mg_of X G aIsStep
  have m_State := PySem.W.mg_of X G aState
  have m_Sts := PySem.W.mg_of X G aSts
  have m_Open := PySem.W.mg_of X G aOpen
  have m_Out := PySem.W.mg_of X G aOut
  have m_Asc := PySem.W.mg_of X G aAsc
  have m_Free := PySem.W.mg_of X G aFree
  have m_IsT := PySem.W.mg_of X G aIsT
  have m_Go := PySem.W.mg_of X G aGo
  have m_Ju := PySem.W.mg_of X G aJu
  have m_Tr := PySem.W.mg_of X G aTr
  have m_Draw := PySem.W.mg_of X G aDraw
  have m_Mach := PySem.W.mg_of X G aMach
  have m_Qu := PySem.W.mg_of X G aQu
  have m_LBe := PySem.W.mg_of X G aLBe
  have m_LF := PySem.W.mg_of X G aLF
  have m_Law := PySem.W.mg_of X G aLaw
  have FMInit := fun_mk (st := sMInit) lMInit cMInit kMInit
  have FMLen := fun_mk (st := sMLen) lMLen cMLen kMLen
  have FOInit := fun_mk (st := sOInit) lOInit cOInit kOInit
  have FSpread := fun_mk (st := sSpread) lSpread cSpread kSpread
  have FAfter := fun_mk (st := sAfter) lAfter cAfter kAfter
  have FWa := fun_mk (st := sWa) lWa cWa kWa
  have FAI := fun_mk (st := sAI) lAI cAI kAI
  have FAB := fun_mk (st := sAB) lAB cAB kAB
  have FAS := fun_mk (st := sAS) lAS cAS kAS
  have FUI := fun_mk (st := sUI) lUI cUI kUI
  have FUB := fun_mk (st := sUB) lUB cUB kUB
  have FUS := fun_mk (st := sUS) lUS cUS kUS
  have FNum := fun_mk (st := sNum) lNum cNum kNum
  have FWord := fun_mk (st := sWord) lWord cWord kWord
  have FWordE := fun_mk (st := sWordE) lWordE cWordE kWordE
  have FIsStep := fun_mk (st := sIsStep) lIsStep cIsStep kIsStep
  have FState := fun_mk (st := sState) lState cState kState
  have FSts := fun_mk (st := sSs) lSts cSts kSts
  have FOpen := fun_mk (st := sOpen) lOpen cOpen kOpen
  have FOut := fun_mk (st := sOut) lOut cOut kOut
  have FAsc := fun_mk (st := sAsc) lAsc cAsc kAsc
  have FFree := fun_mk (st := sFree) lFree cFree kFree
  have FIsT := fun_mk (st := sIsT) lIsT cIsT kIsT
  have FGo := fun_mk (st := sGo) lGo cGo kGo
  have FJu := fun_mk (st := sJu) lJu cJu kJu
  have FTr := fun_mk (st := sTr) lTr cTr kTr
  have FDraw := fun_mk (st := sDraw) lDraw cDraw kDraw
  have FMach := fun_mk (st := sMach) lMach cMach kMach
  have FQu := fun_mk (st := sQu) lQu cQu kQu
  have FLBe := fun_mk (st := sLBe) lLBe cLBe kLBe
  have FLF := fun_mk (st := sLF) lLF cLF kLF
  have FLaw := fun_mk (st := sLaw) lLaw cLaw kLaw
  have bMInit := FMInit.binds (ps := ["self", "many", "steps"]) fun _ _ _ _ _ _ us hl => match us, hl with | [_, _, _], _ => rfl
  have bMLen := FMLen.binds (ps := ["self"]) fun _ _ _ _ _ _ us hl => match us, hl with | [_], _ => rfl
  have bOInit := FOInit.binds (ps := ["self", "many", "steps"]) fun _ _ _ _ _ _ us hl => match us, hl with | [_, _, _], _ => rfl
  have bSpread := FSpread.binds (ps := ["self", "states"]) fun _ _ _ _ _ _ us hl => match us, hl with | [_, _], _ => rfl
  have bAfter := FAfter.binds (ps := ["self", "states", "word"]) fun _ _ _ _ _ _ us hl => match us, hl with | [_, _, _], _ => rfl
  have bWa := FWa.binds (ps := ["self", "states"]) fun _ _ _ _ _ _ us hl => match us, hl with | [_, _], _ => rfl
  have bAI := FAI.binds (ps := ["self", "pairs"]) fun _ _ _ _ _ _ us hl => match us, hl with | [_, _], _ => rfl
  have bAB := FAB.binds (ps := ["self"]) fun _ _ _ _ _ _ us hl => match us, hl with | [_], _ => rfl
  have bAS := FAS.binds (ps := ["self", "one", "other", "free"]) fun _ _ _ _ _ _ us hl => match us, hl with | [_, _, _, _], _ => rfl
  have bUI := FUI.binds (ps := ["self", "trace", "is_first"]) fun _ _ _ _ _ _ us hl => match us, hl with | [_, _, _], _ => rfl
  have bUB := FUB.binds (ps := ["self"]) fun _ _ _ _ _ _ us hl => match us, hl with | [_], _ => rfl
  have bUS := FUS.binds (ps := ["self", "one", "other", "free"]) fun _ _ _ _ _ _ us hl => match us, hl with | [_, _, _, _], _ => rfl
  have bNum := FNum.binds (ps := ["value"]) fun _ _ _ _ _ _ us hl => match us, hl with | [_], _ => rfl
  have bWord := FWord.binds (ps := ["value"]) fun _ _ _ _ _ _ us hl => match us, hl with | [_], _ => rfl
  have bWordE := FWordE.binds (ps := ["value"]) fun _ _ _ _ _ _ us hl => match us, hl with | [_], _ => rfl
  have bIsStep := FIsStep.binds (ps := ["many", "step"]) fun _ _ _ _ _ _ us hl => match us, hl with | [_, _], _ => rfl
  have bState := FState.binds (ps := ["machine", "state"]) fun _ _ _ _ _ _ us hl => match us, hl with | [_, _], _ => rfl
  have bSts := FSts.binds (ps := ["machine", "states"]) fun _ _ _ _ _ _ us hl => match us, hl with | [_, _], _ => rfl
  have bOpen := FOpen.binds (ps := ["machine", "free"]) fun _ _ _ _ _ _ us hl => match us, hl with | [_, _], _ => rfl
  have bOut := FOut.binds (ps := ["machine", "free"]) fun _ _ _ _ _ _ us hl => match us, hl with | [_, _], _ => rfl
  have bAsc := FAsc.binds (ps := ["rows"]) fun _ _ _ _ _ _ us hl => match us, hl with | [_], _ => rfl
  have bFree := FFree.binds (ps := ["kinds"]) fun _ _ _ _ _ _ us hl => match us, hl with | [_], _ => rfl
  have bIsT := FIsT.binds (ps := ["machine", "trace", "free"]) fun _ _ _ _ _ _ us hl => match us, hl with | [_, _, _], _ => rfl
  have bGo := FGo.binds (ps := ["first", "second", "pair", "known"]) fun _ _ _ _ _ _ us hl => match us, hl with | [_, _, _, _], _ => rfl
  have bJu := FJu.binds (ps := ["one", "other", "free"]) fun _ _ _ _ _ _ us hl => match us, hl with | [_, _, _], _ => rfl
  have bTr := FTr.binds (ps := ["origins", "at"]) fun _ _ _ _ _ _ us hl => match us, hl with | [_, _], _ => rfl
  have bDraw := FDraw.binds (ps := ["script", "at", "many"]) fun _ _ _ _ _ _ us hl => match us, hl with | [_, _, _], _ => rfl
  have bMach := FMach.binds (ps := ["script", "at", "most", "kinds", "words"]) fun _ _ _ _ _ _ us hl => match us, hl with | [_, _, _, _, _], _ => rfl
  have bQu := FQu.binds (ps := ["steps", "free", "states"]) fun _ _ _ _ _ _ us hl => match us, hl with | [_, _, _], _ => rfl
  have bLBe := FLBe.binds (ps := ["steps", "free", "states", "word"]) fun _ _ _ _ _ _ us hl => match us, hl with | [_, _, _, _], _ => rfl
  have bLF := FLF.binds (ps := ["one", "other", "free"]) fun _ _ _ _ _ _ us hl => match us, hl with | [_, _, _], _ => rfl
  have clM : Cls K CM := ⟨pgM, hdM, poM, saM⟩
  have clO : Cls K CO := ⟨pgO, hdO, poO, saO⟩
  have clA : Cls K CA := ⟨pgA, hdA, poA, saA⟩
  have clU : Cls K CU := ⟨pgU, hdU, poU, saU⟩
  have MkM : Mk K CM fMInit := ⟨mkM, aMInit, iMInit, kcM⟩
  have MkO : Mk K CO fOInit := ⟨mkO, aOInit, iOInit, kcO⟩
  have MkA : Mk K CA fAI := ⟨mkA, aAI, iAI, kcA⟩
  have MkU : Mk K CU fUI := ⟨mkU, aUI, iUI, kcU⟩
  have ANum : At1 K mg "is_number" fNum := ⟨m_Num, kNum⟩
  have AWord : At1 K mg "is_word" fWord := ⟨m_Word, kWord⟩
  have AWordE : At1 K mg "is_word_or_empty" fWordE := ⟨m_WordE, kWordE⟩
  have AIsStep : At1 K mg "is_step" fIsStep := ⟨m_IsStep, kIsStep⟩
  have AState : At1 K mg "is_state" fState := ⟨m_State, kState⟩
  have ASts : At1 K mg "are_states" fSts := ⟨m_Sts, kSts⟩
  have AOpen : At1 K mg "open_steps" fOpen := ⟨m_Open, kOpen⟩
  have AOut : At1 K mg "outlook_of" fOut := ⟨m_Out, kOut⟩
  have AAsc : At1 K mg "is_ascending" fAsc := ⟨m_Asc, kAsc⟩
  have AFree : At1 K mg "check_free" fFree := ⟨m_Free, kFree⟩
  have AIsT : At1 K mg "is_trace" fIsT := ⟨m_IsT, kIsT⟩
  have AGo : At1 K mg "goes_on_alike" fGo := ⟨m_Go, kGo⟩
  have AJu : At1 K mg "judge_alike" fJu := ⟨m_Ju, kJu⟩
  have ATr : At1 K mg "trace_to" fTr := ⟨m_Tr, kTr⟩
  have ADraw : At1 K mg "_law_draw" fDraw := ⟨m_Draw, kDraw⟩
  have AMach : At1 K mg "_law_machine" fMach := ⟨m_Mach, kMach⟩
  have AQu : At1 K mg "_law_quiet" fQu := ⟨m_Qu, kQu⟩
  have ALBe : At1 K mg "_law_behind" fLBe := ⟨m_LBe, kLBe⟩
  have ALF : At1 K mg "_law_first" fLF := ⟨m_LF, kLF⟩
  have errB : PySem.PlX.Txt l.prog K mg "BadMachine" CB fB :=
    { gC := m_B, cls := ⟨_, _, _, _, _, _, _, _, _, _, _, _, _, _, _, xB, rfl⟩, sa := saB, ga := gaB, gg := ggB, noN := noB, iC := aB, tC := tB, kC := kcB, exC := eB, veC := vB, tyC := yB, hdC := hdB, te := names_itself eB iB yB sB, sup := suB, opq := z_opq, exI := exB, self := seB, sups := w_super, top := z_top,
      fn := ⟨_, _, _, _, _, _, _, _, _, _, _, _, _, _, _, _, _, _, _, _, _, _, _, lB, cB, by decide, fun _ => ⟨_, rfl⟩, dB, vfB, pfB, ceB⟩ }
  refine ⟨PySem.W.fnOf "law" "law" (defArgs sLaw) (defBody sLaw) (defScope sLaw) .none kVLaw dcLaw pmLaw anLaw cdLaw ctLaw, fun s v => .of_eq rfl, fun base _ _ => ?_⟩
  have TB : TxtB mg := ⟨w_type, w_int, w_str, w_isinstance, w_len, w_list, w_tuple⟩
  have GNum := ok_num (P := l.prog) (w := w) (mg := mg) (base := base) FNum TB
  have GWord := ok_word (P := l.prog) (w := w) (mg := mg) (base := base) FWord TB
  have GWordE := ok_wordE FWordE ⟨m_Word, kWord⟩ GWord bWord
  have GIsStep := ok_isStep FIsStep ⟨m_Num, kNum, m_WordE, kWordE, w_isinstance, w_tuple, w_len⟩ GNum bNum GWordE bWordE
  have GMInit := ok_mInit FMInit ⟨clM, nMmany, nMsteps, nMkinds, nMwords, nMby_state, nM_known, errB, m_Num, kNum, m_IsStep, kIsStep, m_most, w_isinstance, w_list, w_tuple, w_enumerate, w_sorted, w_set, w_range⟩ GNum bNum GIsStep bIsStep
  have GMLen := ok_mLen (P := l.prog) (w := w) (mg := mg) (base := base) FMLen ⟨clM, nMmany, nMsteps, nMkinds, nMwords, nMby_state, nM_known, w_len, w_list⟩
  have GOInit := ok_oInit (P := l.prog) (w := w) (mg := mg) (base := base) FOInit ⟨clO, nOunseen, nOby_word, w_range⟩
  have GSpread := ok_spread (P := l.prog) (w := w) (mg := mg) (base := base) FSpread ⟨clO, nOunseen, w_len, w_sorted, w_set, w_tuple⟩
  have GAfter := ok_after FAfter ⟨clO, nOby_word, ⟨aSpread, iSpread, kSpread⟩⟩ GSpread bSpread
  have GWa := ok_wa (P := l.prog) (w := w) (mg := mg) (base := base) FWa ⟨clO, nOby_word, w_sorted⟩
  have GOpen := ok_open (P := l.prog) (w := w) (mg := mg) (base := base) FOpen ⟨clM, nMsteps⟩
  have GOut := ok_out FOut ⟨w_len, aMLen, iMLen, m_Open, kOpen, m_O⟩ MkO GOInit bOInit GMLen bMLen GOpen bOpen
  have GAsc := ok_asc (P := l.prog) (w := w) (mg := mg) (base := base) FAsc ⟨w_all, w_zip⟩
  have GAscI := ok_ascI (P := l.prog) (w := w) (mg := mg) (base := base) FAsc ⟨w_all, w_zip⟩
  have GAsc2 := ok_asc2 (P := l.prog) (w := w) (mg := mg) (base := base) FAsc ⟨w_all, w_zip⟩
  have GFree := ok_free FFree ⟨w_isinstance, w_all, w_tuple, m_Word, kWord, m_Asc, kAsc, xK, m_K, kcK, bK, tK⟩ GWord bWord GAsc bAsc
  have GFreeB := okB_free FFree ⟨w_isinstance, w_all, w_tuple, m_Word, kWord, m_Asc, kAsc, xK, m_K, kcK, bK, tK⟩ GWord bWord GAsc2 bAsc
  have GState := ok_state FState ⟨m_Num, kNum, w_len, aMLen, iMLen⟩ GNum bNum GMLen bMLen
  have GSts := ok_states FSts ⟨w_isinstance, w_tuple, w_all⟩ AState GState bState AAsc GAscI bAsc
  have GIsT := ok_isT FIsT ⟨w_len, m_Free, kFree, m_Out, kOut, clO, ⟨aSpread, iSpread, kSpread⟩, ⟨aAfter, iAfter, kAfter⟩⟩ GFree bFree GOut bOut GSpread bSpread GAfter bAfter
  have TJ : TxtJ K mg CO CA CU := ⟨w_len, w_bool, w_all, w_set, w_sorted, ⟨clO, m_O⟩, ⟨clA, m_A⟩, ⟨clU, m_U⟩⟩
  have TAU : TxtAU K mg CA CU := ⟨w_list, clA, clU, nApairs, nUtrace, nUis_first⟩
  have MSpread : Meth K CO "spread" fSpread := ⟨aSpread, iSpread, kSpread⟩
  have MAfter : Meth K CO "after" fAfter := ⟨aAfter, iAfter, kAfter⟩
  have MWa : Meth K CO "words_at" fWa := ⟨aWa, iWa, kWa⟩
  have GTr := ok_tr (P := l.prog) (w := w) (mg := mg) (base := base) FTr
  have GAI := ok_aI (P := l.prog) (w := w) (mg := mg) (base := base) FAI TAU
  have GUI := ok_uI (P := l.prog) (w := w) (mg := mg) (base := base) FUI TAU
  have GAB := ok_aB (P := l.prog) (w := w) (mg := mg) (base := base) FAB
  have GUB := ok_uB (P := l.prog) (w := w) (mg := mg) (base := base) FUB
  have GGo := ok_go (P := l.prog) (w := w) (mg := mg) (base := base) FGo TJ MSpread GSpread bSpread MAfter GAfter bAfter MWa GWa bWa
  have GJu := ok_ju (P := l.prog) (w := w) (mg := mg) (base := base) FJu TJ AFree GFree bFree AOut GOut bOut MSpread GSpread bSpread MAfter GAfter bAfter MWa GWa bWa ATr GTr bTr MkA GAI bAI MkU GUI bUI
  have GJuB := okB_ju (P := l.prog) (w := w) (mg := mg) (base := base) FJu TJ AFree GFreeB bFree AOut GOut bOut MSpread GSpread bSpread MAfter GAfter bAfter MWa GWa bWa ATr GTr bTr MkA GAI bAI MkU GUI bUI
  have GUS := ok_us (P := l.prog) (w := w) (mg := mg) (base := base) FUS TJ TAU AFree GFree bFree AIsT GIsT bIsT AJu GJu bJu
  have GAS := ok_as (P := l.prog) (w := w) (mg := mg) (base := base) FAS TJ TAU AFree GFree bFree ASts GSts bSts AOut GOut bOut MSpread GSpread bSpread AGo GGo bGo
  have GDraw := ok_draw (P := l.prog) (w := w) (mg := mg) (base := base) FDraw ⟨w_len, w_int, w_range⟩
  have GMach := ok_mach FMach ⟨w_len, w_range, m_Draw, kDraw⟩ GDraw bDraw
  have GQu := ok_quiet (P := l.prog) (w := w) (mg := mg) (base := base) FQu ⟨w_len, w_set, w_sorted, w_tuple⟩
  have GLBe := ok_lbe (P := l.prog) (w := w) (mg := mg) (base := base) FLBe AQu GQu bQu
  have GLF := ok_lf (P := l.prog) (w := w) (mg := mg) (base := base) FLF ⟨w_list⟩ AQu GQu bQu ALBe GLBe bLBe
  have TL : TxtLw K mg CM CO CA CU CK := ⟨w_len, w_bool, w_isinstance, w_range, ⟨clM, m_M⟩, ⟨clA, m_A⟩, ⟨clU, m_U⟩, nMsteps, nApairs, nUtrace, nUis_first, m_K, names_itself bK iK tK sK⟩
  have TS : TxtSay l.prog w K mg base CA CU :=
    { says := fun C b hc => by
        rcases hc with ⟨rfl, rfl⟩ | ⟨rfl, rfl⟩
        · exact ⟨fAB, _, aAB, iAB, GAB, bAB⟩
        · exact ⟨fUB, _, aUB, iUB, GUB, bUB⟩
      kitA := kit_own hdU tyU sAU (ref_ne nAU), kitU := kit_own hdU tyU sUU (fun _ => rfl)
      tyA := fun H x dx fs hx => .base (.ins hx clA haA hnO htO obA), tyU := fun H x dx fs hx => .base (.ins hx clU haU hnO htO obU) }
  exact ok_law (P := l.prog) (w := w) (mg := mg) (base := base) FLaw TL TS MkM GMInit bMInit AMach GMach bMach ADraw GDraw bDraw AQu GQu bQu ALBe GLBe bLBe ALF GLF bLF AJu GJu GJuB bJu AIsT GIsT bIsT MkA GAI bAI MkU GUI bUI ⟨aAS, iAS, kAS⟩ GAS bAS ⟨aUS, iUS, kUS⟩ GUS bUS
end K1
end
open PySem PySem.W PyProof.Rows in
set_option maxRecDepth 100000 in
set_option maxHeartbeats 0 in
theorem PySem.Challenge.cw_allbrokers_k06_whole_outside_holds : PySem.Challenge.rw_allbrokers_k06_whole_outside.Holds := by
  w_on; o_law; k_head; (case hw => w_witness2)
  k_fill
  refine K1.from_law (l := PySem.Challenge.rw_allbrokers_k06_whole_outside) rfl rfl (fun w h Y => PySem.W.kIn_of Y) ?F
  case F =>
    intro w mg fa h KX G hmg
    refine' K1.all_mk KX G hmg ?gM ?pgM ?hdM ?poM ?saM ?mkM ?kcM ?nMmany ?nMsteps ?nMkinds ?nMwords ?nMby_state ?nM_known ?gO ?pgO ?hdO ?poO ?saO ?mkO ?kcO ?nOunseen ?nOby_word ?gA ?pgA ?hdA ?poA ?saA ?mkA ?kcA ?nApairs ?gU ?pgU ?hdU ?poU ?saU ?mkU ?kcU ?nUtrace ?nUis_first ?hnO ?htO ?haA ?obA ?haU ?obU ?tyU ?sAU ?sUU ?nAU ?aMInit ?iMInit ?lMInit ?cMInit ?kMInit ?aMLen ?iMLen ?lMLen ?cMLen ?kMLen ?aOInit ?iOInit ?lOInit ?cOInit ?kOInit ?aSpread ?iSpread ?lSpread ?cSpread ?kSpread ?aAfter ?iAfter ?lAfter ?cAfter ?kAfter ?aWa ?iWa ?lWa ?cWa ?kWa ?aAI ?iAI ?lAI ?cAI ?kAI ?aAB ?iAB ?lAB ?cAB ?kAB ?aAS ?iAS ?lAS ?cAS ?kAS ?aUI ?iUI ?lUI ?cUI ?kUI ?aUB ?iUB ?lUB ?cUB ?kUB ?aUS ?iUS ?lUS ?cUS ?kUS ?aNum ?lNum ?cNum ?kNum ?aWord ?lWord ?cWord ?kWord ?aWordE ?lWordE ?cWordE ?kWordE ?aIsStep ?lIsStep ?cIsStep ?kIsStep ?aState ?lState ?cState ?kState ?aSts ?lSts ?cSts ?kSts ?aOpen ?lOpen ?cOpen ?kOpen ?aOut ?lOut ?cOut ?kOut ?aAsc ?lAsc ?cAsc ?kAsc ?aFree ?lFree ?cFree ?kFree ?aIsT ?lIsT ?cIsT ?kIsT ?aGo ?lGo ?cGo ?kGo ?aJu ?lJu ?cJu ?kJu ?aTr ?lTr ?cTr ?kTr ?aDraw ?lDraw ?cDraw ?kDraw ?aMach ?lMach ?cMach ?kMach ?aQu ?lQu ?cQu ?kQu ?aLBe ?lLBe ?cLBe ?kLBe ?aLF ?lLF ?cLF ?kLF ?aLaw ?lLaw ?cLaw ?kLaw ?gK ?xK ?kcK ?bK ?tK ?iK ?sK ?gB ?xB ?saB ?gaB ?ggB ?noB ?aB ?tB ?kcB ?eB ?vB ?yB ?hdB ?iB ?sB ?suB ?exB ?seB ?lB ?cB ?dB ?vfB ?pfB ?ceB ?z_type ?z_int ?z_str ?z_isinstance ?z_len ?z_list ?z_tuple ?z_enumerate ?z_sorted ?z_set ?z_range ?z_all ?z_zip ?z_bool ?z_super ?z_opq ?z_top ?z_most
    (case gM => k_is)
    (case pgM => k_is)
    (case hdM => k_is)
    (case poM => k_is)
    (case saM => k_is)
    (case mkM => k_is)
    (case kcM => k_is)
    (case nMmany => k_is)
    (case nMsteps => k_is)
    (case nMkinds => k_is)
    (case nMwords => k_is)
    (case nMby_state => k_is)
    (case nM_known => k_is)
    (case gO => k_is)
    (case pgO => k_is)
    (case hdO => k_is)
    (case poO => k_is)
    (case saO => k_is)
    (case mkO => k_is)
    (case kcO => k_is)
    (case nOunseen => k_is)
    (case nOby_word => k_is)
    (case gA => k_is)
    (case pgA => k_is)
    (case hdA => k_is)
    (case poA => k_is)
    (case saA => k_is)
    (case mkA => k_is)
    (case kcA => k_is)
    (case nApairs => k_is)
    (case gU => k_is)
    (case pgU => k_is)
    (case hdU => k_is)
    (case poU => k_is)
    (case saU => k_is)
    (case mkU => k_is)
    (case kcU => k_is)
    (case nUtrace => k_is)
    (case nUis_first => k_is)
    (case hnO => k_is)
    (case htO => k_is)
    (case haA => first | k_is | kernel_rfl | rfl)
    (case obA => first | k_is | kernel_rfl | rfl)
    (case haU => first | k_is | kernel_rfl | rfl)
    (case obU => first | k_is | kernel_rfl | rfl)
    (case tyU => first | k_is | kernel_rfl | rfl)
    (case sAU => first | k_is | kernel_rfl | rfl)
    (case sUU => first | k_is | kernel_rfl | rfl)
    (case nAU => decide)
    (case aMInit => k_is)
    (case iMInit => k_is)
    (case lMInit => k_is)
    (case cMInit => k_is)
    (case kMInit => k_is)
    (case aMLen => k_is)
    (case iMLen => k_is)
    (case lMLen => k_is)
    (case cMLen => k_is)
    (case kMLen => k_is)
    (case aOInit => k_is)
    (case iOInit => k_is)
    (case lOInit => k_is)
    (case cOInit => k_is)
    (case kOInit => k_is)
    (case aSpread => k_is)
    (case iSpread => k_is)
    (case lSpread => k_is)
    (case cSpread => k_is)
    (case kSpread => k_is)
    (case aAfter => k_is)
    (case iAfter => k_is)
    (case lAfter => k_is)
    (case cAfter => k_is)
    (case kAfter => k_is)
    (case aWa => k_is)
    (case iWa => k_is)
    (case lWa => k_is)
    (case cWa => k_is)
    (case kWa => k_is)
    (case aAI => k_is)
    (case iAI => k_is)
    (case lAI => k_is)
    (case cAI => k_is)
    (case kAI => k_is)
    (case aAB => k_is)
    (case iAB => k_is)
    (case lAB => k_is)
    (case cAB => k_is)
    (case kAB => k_is)
    (case aAS => k_is)
    (case iAS => k_is)
    (case lAS => k_is)
    (case cAS => k_is)
    (case kAS => k_is)
    (case aUI => k_is)
    (case iUI => k_is)
    (case lUI => k_is)
    (case cUI => k_is)
    (case kUI => k_is)
    (case aUB => k_is)
    (case iUB => k_is)
    (case lUB => k_is)
    (case cUB => k_is)
    (case kUB => k_is)
    (case aUS => k_is)
    (case iUS => k_is)
    (case lUS => k_is)
    (case cUS => k_is)
    (case kUS => k_is)
    (case aNum => k_is)
    (case lNum => k_is)
    (case cNum => k_is)
    (case kNum => k_is)
    (case aWord => k_is)
    (case lWord => k_is)
    (case cWord => k_is)
    (case kWord => k_is)
    (case aWordE => k_is)
    (case lWordE => k_is)
    (case cWordE => k_is)
    (case kWordE => k_is)
    (case aIsStep => k_is)
    (case lIsStep => k_is)
    (case cIsStep => k_is)
    (case kIsStep => k_is)
    (case aState => k_is)
    (case lState => k_is)
    (case cState => k_is)
    (case kState => k_is)
    (case aSts => k_is)
    (case lSts => k_is)
    (case cSts => k_is)
    (case kSts => k_is)
    (case aOpen => k_is)
    (case lOpen => k_is)
    (case cOpen => k_is)
    (case kOpen => k_is)
    (case aOut => k_is)
    (case lOut => k_is)
    (case cOut => k_is)
    (case kOut => k_is)
    (case aAsc => k_is)
    (case lAsc => k_is)
    (case cAsc => k_is)
    (case kAsc => k_is)
    (case aFree => k_is)
    (case lFree => k_is)
    (case cFree => k_is)
    (case kFree => k_is)
    (case aIsT => k_is)
    (case lIsT => k_is)
    (case cIsT => k_is)
    (case kIsT => k_is)
    (case aGo => k_is)
    (case lGo => k_is)
    (case cGo => k_is)
    (case kGo => k_is)
    (case aJu => k_is)
    (case lJu => k_is)
    (case cJu => k_is)
    (case kJu => k_is)
    (case aTr => k_is)
    (case lTr => k_is)
    (case cTr => k_is)
    (case kTr => k_is)
    (case aDraw => k_is)
    (case lDraw => k_is)
    (case cDraw => k_is)
    (case kDraw => k_is)
    (case aMach => k_is)
    (case lMach => k_is)
    (case cMach => k_is)
    (case kMach => k_is)
    (case aQu => k_is)
    (case lQu => k_is)
    (case cQu => k_is)
    (case kQu => k_is)
    (case aLBe => k_is)
    (case lLBe => k_is)
    (case cLBe => k_is)
    (case kLBe => k_is)
    (case aLF => k_is)
    (case lLF => k_is)
    (case cLF => k_is)
    (case kLF => k_is)
    (case aLaw => k_is)
    (case lLaw => k_is)
    (case cLaw => k_is)
    (case kLaw => k_is)
    (case gK => k_is)
    (case xK => k_exc)
    (case kcK => k_is)
    (case bK => k_is)
    (case tK => k_is)
    (case iK => k_is)
    (case sK => first | rfl | k_is)
    (case gB => k_is)
    (case xB => k_is)
    (case saB => k_is)
    (case gaB => k_is)
    (case ggB => k_is)
    (case noB => k_is)
    (case aB => k_is)
    (case tB => k_is)
    (case kcB => k_is)
    (case eB => k_is)
    (case vB => k_is)
    (case yB => k_is)
    (case hdB => k_is)
    (case iB => k_is)
    (case sB => first | rfl | k_is)
    (case suB => first | k_exc | kernel_rfl)
    (case exB => first | k_exc | kernel_rfl)
    (case seB => k_is)
    (case lB => k_is)
    (case cB => k_is)
    (case dB => k_is)
    (case vfB => rfl)
    (case pfB => rfl)
    (case ceB => k_is)
    (case z_type => k_is)
    (case z_int => k_is)
    (case z_str => k_is)
    (case z_isinstance => k_is)
    (case z_len => k_is)
    (case z_list => k_is)
    (case z_tuple => k_is)
    (case z_enumerate => k_is)
    (case z_sorted => k_is)
    (case z_set => k_is)
    (case z_range => k_is)
    (case z_all => k_is)
    (case z_zip => k_is)
    (case z_bool => k_is)
    (case z_super => k_is)
    (case z_opq => k_is)
    (case z_top => rfl)
    (case z_most => k_is)
