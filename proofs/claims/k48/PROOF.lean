import PyProof.Rows.All
import Wide.All
import OpenK.AllK
import Wide.FinOn
import HandS.TupSets
import HandS.SetFor
import KE.SortData
import HandS.SetKeys
import HandS.SetBool
import HandS.DictComp
import HandS.Iter
import KE.GoesMore
import HandS.Words
import HandS.ExcOwn
import HandS.OwnEq
import KE.KExcSuper
import HandS.ForMost
import HandS.ForExc
import HandS.FStr
import HandS.ExcInit
import HandS.ExcField
import HandS.Steps
import HandS.Gcd
import HandS.Style
import HandS.NamedTupSort
import HandS.Zip
import KE.GoesZip
import HandS.IsInst
import HandS.Codes
import HandS.Wide
import HandS.ExcIs
import HandS.WordsExc
import HandS.Walk
import HandS.Lambda
import HandS.Ends
import HandS.EndTab
import KE.KStateDown
import KE.KNestM
import PySem.Challenge.RW_allbrokers_k48_whole_lags
set_option Elab.async false
set_option linter.all false
set_option maxRecDepth 100000
section
/-! Timetables: the mathematics. -/
namespace KT
/-- the number of a tick -/
def at_ (f p : List Int) (t : Nat) : Int := if t < f.length then f.getD t 0 else p.getD ((t - f.length) % p.length) 0
/-- how many wait ahead of a tick -/
def pre (F R : Nat → Int) : Nat → Int
  | 0 => 0
  | t + 1 => max 0 (pre F R t + F t - R t)
/-- the same from any tick and number on -/
def run (d : Nat → Int) (x : Int) (t : Nat) : Nat → Int
  | 0 => x
  | n + 1 => max 0 (run d x t n + d (t + n))
def sumW (d : Nat → Int) (t : Nat) : Nat → Int
  | 0 => 0
  | n + 1 => sumW d t n + d (t + n)
theorem pre_nn (F R : Nat → Int) : ∀ t, 0 ≤ pre F R t
  | 0 => Int.le_refl 0
  | t + 1 => by unfold pre; omega
theorem pre_run (F R : Nat → Int) (t : Nat) : ∀ n, pre F R (t + n) = run (fun i => F i - R i) (pre F R t) t n
  | 0 => rfl
  | n + 1 => by
    show max 0 (pre F R (t + n) + F (t + n) - R (t + n)) = max 0 (run (fun i => F i - R i) (pre F R t) t n + (F (t + n) - R (t + n)))
    rw [pre_run F R t n]; omega
theorem run_mono (d : Nat → Int) {x y : Int} (h : x ≤ y) (t : Nat) : ∀ n, run d x t n ≤ run d y t n
  | 0 => h
  | n + 1 => by
    have := run_mono d h t n
    unfold run; omega
theorem run_le (d : Nat → Int) {x : Int} (h : 0 ≤ x) (t : Nat) : ∀ n, run d x t n ≤ max (x + sumW d t n) (run d 0 t n)
  | 0 => by show x ≤ max (x + 0) 0; omega
  | n + 1 => by
    have := run_le d h t n
    unfold run sumW; omega
theorem run_ge (d : Nat → Int) (x : Int) (t : Nat) : ∀ n, x + sumW d t n ≤ run d x t n
  | 0 => by show x + 0 ≤ x; omega
  | n + 1 => by
    have := run_ge d x t n
    unfold run sumW; omega
theorem run_shift (d : Nat → Int) (x : Int) {t T : Nat} (per : ∀ u, t ≤ u → d (u + T) = d u) : ∀ n, run d x (t + T) n = run d x t n
  | 0 => rfl
  | n + 1 => by
    unfold run
    rw [run_shift d x per n, show t + T + n = (t + n) + T by omega, per (t + n) (Nat.le_add_right ..)]
theorem sum_next (d : Nat → Int) (t : Nat) : ∀ n, sumW d (t + 1) n = sumW d t n - d t + d (t + n)
  | 0 => by show (0 : Int) = 0 - d t + d (t + 0); simp; omega
  | n + 1 => by
    unfold sumW
    rw [sum_next d t n, show t + 1 + n = t + (n + 1) by omega]; omega
theorem sum_same (d : Nat → Int) {c T : Nat} (per : ∀ u, c ≤ u → d (u + T) = d u) : ∀ k, sumW d (c + k) T = sumW d c T
  | 0 => rfl
  | k + 1 => by
    show sumW d ((c + k) + 1) T = _
    rw [sum_next, per (c + k) (Nat.le_add_right ..), sum_same d per k]; omega
theorem sum_add (d : Nat → Int) (t m : Nat) : ∀ n, sumW d t (m + n) = sumW d t m + sumW d (t + m) n
  | 0 => by show sumW d t m = sumW d t m + 0; omega
  | n + 1 => by
    show sumW d t (m + n) + d (t + (m + n)) = sumW d t m + (sumW d (t + m) n + d (t + m + n))
    rw [sum_add d t m n, show t + (m + n) = t + m + n by omega]; omega
theorem sum_times (d : Nat → Int) {c q : Nat} (per : ∀ u, c ≤ u → d (u + q) = d u) (k : Nat) : ∀ m : Nat, sumW d (c + k) (q * m) = m * sumW d c q
  | 0 => by show (0 : Int) = ((0 : Nat) : Int) * _; simp
  | m + 1 => by
    rw [Nat.mul_succ, sum_add, sum_times d per k m, show c + k + q * m = c + (k + q * m) by omega, sum_same d per, Int.natCast_succ, Int.add_mul, Int.one_mul]
theorem per_mul (d : Nat → Int) {c q : Nat} (per : ∀ u, c ≤ u → d (u + q) = d u) (m : Nat) : ∀ u, c ≤ u → d (u + q * m) = d u := by
  induction m with
  | zero => intro u _; rfl
  | succ m ih =>
    intro u h
    rw [Nat.mul_succ, show u + (q * m + q) = (u + q * m) + q by omega, per _ (by omega), ih u h]
theorem sum_sub (a b : Nat → Int) (t : Nat) : ∀ n, sumW (fun i => a i - b i) t n = sumW a t n - sumW b t n
  | 0 => rfl
  | n + 1 => by unfold sumW; rw [sum_sub a b t n]; omega
/-- if no more is fed than read in a common period, the lag falls from the second period on -/
theorem falls {F R : Nat → Int} {c T : Nat} (pF : ∀ u, c ≤ u → F (u + T) = F u) (pR : ∀ u, c ≤ u → R (u + T) = R u) (g : sumW (fun i => F i - R i) c T ≤ 0) (u : Nat) (h : c + T ≤ u) : pre F R (u + T) ≤ pre F R u := by
  obtain ⟨k, rfl⟩ : ∃ k, u = (c + k) + T := ⟨u - c - T, by omega⟩
  generalize hd : (fun i => F i - R i) = d at g
  have pd : ∀ u, c ≤ u → d (u + T) = d u := fun u h => by subst hd; show F (u + T) - R (u + T) = F u - R u; rw [pF u h, pR u h]
  have e1 : pre F R ((c + k) + T) = run d (pre F R (c + k)) (c + k) T := by rw [pre_run, hd]
  have e2 : pre F R ((c + k) + T + T) = run d (pre F R ((c + k) + T)) (c + k) T := by
    rw [pre_run, hd, run_shift d _ fun u h => pd u (by omega)]
  have s := sum_same d pd k
  have l0 := run_mono d (pre_nn F R (c + k)) (c + k) T
  have l1 := run_le d (pre_nn F R ((c + k) + T)) (c + k) T
  rw [← e2, s] at l1
  rw [← e1] at l0
  omega
/-- if more is fed, it comes to any number -/
theorem grows {F R : Nat → Int} {c T : Nat} (pF : ∀ u, c ≤ u → F (u + T) = F u) (pR : ∀ u, c ≤ u → R (u + T) = R u) (g : 0 < sumW (fun i => F i - R i) c T) (B : Int) : ∃ t, B < pre F R (t + 1) := by
  generalize hd : (fun i => F i - R i) = d at g
  have pd : ∀ u, c ≤ u → d (u + T) = d u := fun u h => by subst hd; show F (u + T) - R (u + T) = F u - R u; rw [pF u h, pR u h]
  have k := sum_times d pd 0 (B.toNat + 1)
  have r := run_ge d (pre F R (c + 0)) (c + 0) (T * (B.toNat + 1))
  rw [k, ← hd, ← pre_run, hd] at r
  have n := pre_nn F R (c + 0)
  have q : ((B.toNat + 1 : Nat) : Int) ≤ ((B.toNat + 1 : Nat) : Int) * sumW d c T := by
    have := Int.mul_le_mul_of_nonneg_left (show (1 : Int) ≤ sumW d c T by omega) (show (0 : Int) ≤ ((B.toNat + 1 : Nat) : Int) by omega)
    rwa [Int.mul_one] at this
  have T0 : T ≠ 0 := fun z => by rw [z] at g; exact absurd g (Int.lt_irrefl 0)
  have lt : 0 < T * (B.toNat + 1) := Nat.mul_pos (by omega) (by omega)
  refine ⟨c + 0 + T * (B.toNat + 1) - 1, ?_⟩
  rw [show c + 0 + T * (B.toNat + 1) - 1 + 1 = c + 0 + T * (B.toNat + 1) by omega]
  omega
/-! ### greatest ones -/
/-- m is the greatest value, and one of the first N -/
theorem all_le {g : Nat → Int} {c T : Nat} (T0 : 0 < T) (fall : ∀ u, c + T ≤ u → g (u + T) ≤ g u) {m : Int} (le : ∀ t, t < c + 2 * T → g t ≤ m) : ∀ t, g t ≤ m := by
  intro t
  induction t using Nat.strongRecOn with
  | ind t ih =>
    rcases Nat.lt_or_ge t (c + 2 * T) with h | h
    · exact le t h
    · have a := fall (t - T) (by omega)
      rw [show t - T + T = t by omega] at a
      have b := ih (t - T) (by omega)
      omega
/-! ### timetables by ticks -/
structure Good (f p : List Int) : Prop where
  ne : p ≠ []
  few : f.length ≤ 24
  few' : p.length ≤ 24
  low : ∀ x ∈ f ++ p, 0 ≤ x
  high : ∀ x ∈ f ++ p, x ≤ 100
theorem Good.pos {f p : List Int} (h : Good f p) : 0 < p.length := List.length_pos_iff.mpr h.ne
theorem at_mem {f p : List Int} (ne : p ≠ []) (t : Nat) : at_ f p t ∈ f ++ p := by
  unfold at_
  have hp := List.length_pos_iff.mpr ne
  split
  · rename_i h
    rw [List.getD_eq_getElem?_getD, List.getElem?_eq_getElem h]
    exact List.mem_append_left _ (List.getElem_mem h)
  · have h := Nat.mod_lt (t - f.length) hp
    rw [List.getD_eq_getElem?_getD, List.getElem?_eq_getElem h]
    exact List.mem_append_right _ (List.getElem_mem h)
theorem mem_at {f p : List Int} {x : Int} (h : x ∈ f ++ p) : ∃ t, at_ f p t = x := by
  rcases List.mem_append.mp h with h | h
  · obtain ⟨i, hi, e⟩ := List.getElem_of_mem h
    refine ⟨i, ?_⟩
    unfold at_
    rw [if_pos hi, List.getD_eq_getElem?_getD, List.getElem?_eq_getElem hi]; exact e
  · obtain ⟨i, hi, e⟩ := List.getElem_of_mem h
    refine ⟨f.length + i, ?_⟩
    unfold at_
    rw [if_neg (by omega), show f.length + i - f.length = i by omega, Nat.mod_eq_of_lt hi, List.getD_eq_getElem?_getD, List.getElem?_eq_getElem hi]; exact e
theorem at_per {f p : List Int} (t : Nat) (h : f.length ≤ t) : at_ f p (t + p.length) = at_ f p t := by
  unfold at_
  rw [if_neg (by omega), if_neg (by omega), show t + p.length - f.length = (t - f.length) + p.length by omega, Nat.add_mod_right]
theorem at_per_mul {f p : List Int} {c q : Nat} (h : f.length ≤ c) (m : Nat) (e : q = p.length * m) : ∀ u, c ≤ u → at_ f p (u + q) = at_ f p u := by
  subst e
  exact fun u hu => per_mul (at_ f p) (c := f.length) (fun v hv => at_per v hv) m u (by omega)
theorem sum_getD : ∀ (p : List Int) (n : Nat), n ≤ p.length → sumW (fun i => p.getD i 0) 0 n = (p.take n).sum
  | p, 0, _ => by simp [sumW]
  | p, n + 1, h => by
    unfold sumW
    rw [sum_getD p n (by omega), List.take_add_one, List.getElem?_eq_getElem (show n < p.length by omega), List.sum_append]
    simp [List.getD_eq_getElem?_getD, List.getElem?_eq_getElem (show n < p.length by omega)]
theorem sumW_congr {a b : Nat → Int} (t : Nat) : ∀ n, (∀ i, i < n → a (t + i) = b (t + i)) → sumW a t n = sumW b t n
  | 0, _ => rfl
  | n + 1, h => by
    unfold sumW
    rw [sumW_congr t n fun i hi => h i (by omega), h n (by omega)]
theorem sumW_off (d : Nat → Int) (c : Nat) : ∀ n, sumW d c n = sumW (fun i => d (c + i)) 0 n
  | 0 => rfl
  | n + 1 => by unfold sumW; rw [sumW_off d c n, Nat.zero_add]
theorem at_sum {f p : List Int} : sumW (at_ f p) f.length p.length = p.sum := by
  rw [sumW_off, sumW_congr (b := fun i => p.getD i 0) 0 p.length, sum_getD p p.length (Nat.le_refl _), List.take_length]
  intro i hi
  simp only [Nat.zero_add]
  unfold at_
  rw [if_neg (by omega), show f.length + i - f.length = i by omega, Nat.mod_eq_of_lt hi]
/-- what a common period brings -/
theorem at_window {f p : List Int} {c q m : Nat} (h : f.length ≤ c) (e : q = p.length * m) : sumW (at_ f p) c q = m * p.sum := by
  subst e
  have := sum_times (at_ f p) (c := f.length) (q := p.length) (fun v hv => at_per v hv) (c - f.length) m
  rw [show f.length + (c - f.length) = c by omega, at_sum] at this
  exact this
end KT
end
section
/-! Lags, rates and kept rows: what the law asks of them. -/
namespace KT
def lagsL (F R : Nat → Int) (n : Nat) : List Int := (List.range n).map fun t => pre F R (t + 1)
def waitL (F R : Nat → Int) (n : Nat) : List Int := (List.range n).map fun t => pre F R t + F t
/-- two timetables and their common period -/
structure Two (F R : Nat → Int) (c T : Nat) : Prop where
  pos : 0 < T
  pF : ∀ u, c ≤ u → F (u + T) = F u
  pR : ∀ u, c ≤ u → R (u + T) = R u
theorem greatest {F R : Nat → Int} {c T : Nat} (W : Two F R c T) (g : sumW (fun i => F i - R i) c T ≤ 0) {m : Int} (all : ∀ y ∈ lagsL F R (c + 2 * T), y ≤ m) : ∀ t, pre F R (t + 1) ≤ m :=
  all_le (g := fun t => pre F R (t + 1)) W.pos (fun u h => by
    have := falls W.pF W.pR g (u + 1) (by omega)
    show pre F R (u + T + 1) ≤ _
    rw [show u + T + 1 = u + 1 + T by omega]; exact this) fun t h => all _ (List.mem_map.mpr ⟨t, List.mem_range.mpr h, rfl⟩)
theorem greatest_wait {F R : Nat → Int} {c T : Nat} (W : Two F R c T) (g : sumW (fun i => F i - R i) c T ≤ 0) {m : Int} (all : ∀ y ∈ waitL F R (c + 2 * T), y ≤ m) : ∀ t, pre F R t + F t ≤ m :=
  all_le (g := fun t => pre F R t + F t) W.pos (fun u h => by
    have := falls W.pF W.pR g u h
    have e := W.pF u (by omega)
    show pre F R (u + T) + F (u + T) ≤ _
    omega) fun t h => all _ (List.mem_map.mpr ⟨t, List.mem_range.mpr h, rfl⟩)
/-- the greatest lag, or none -/
def IsLag (F R : Nat → Int) : Option Int → Prop
  | none => ∀ B : Int, ∃ t, B < pre F R (t + 1)
  | some m => (∃ t, pre F R (t + 1) = m) ∧ ∀ t, pre F R (t + 1) ≤ m
theorem lag_one {F R : Nat → Int} {o o' : Option Int} (h : IsLag F R o) (h' : IsLag F R o') : o = o' := by
  match o, o', h, h' with
  | none, none, _, _ => rfl
  | none, some m, h, h' => obtain ⟨t, ht⟩ := h m; have := h'.2 t; omega
  | some m, none, h, h' => obtain ⟨t, ht⟩ := h' m; have := h.2 t; omega
  | some m, some m', h, h' =>
    obtain ⟨⟨t, ht⟩, a⟩ := h
    obtain ⟨⟨t', ht'⟩, a'⟩ := h'
    have := a t'; have := a' t
    exact congrArg some (by omega)
theorem pre_mono {F R F' R' : Nat → Int} (h : ∀ t, F t - R t ≤ F' t - R' t) : ∀ t, pre F R t ≤ pre F' R' t
  | 0 => Int.le_refl 0
  | t + 1 => by
    have a := pre_mono h t
    have b := h t
    unfold pre; omega
theorem pre_sub (F R F' R' : Nat → Int) : ∀ t, pre (fun i => F i + F' i) (fun i => R i + R' i) t ≤ pre F R t + pre F' R' t
  | 0 => Int.le_refl 0
  | t + 1 => by
    have a := pre_sub F R F' R' t
    show max 0 (pre (fun i => F i + F' i) (fun i => R i + R' i) t + (F t + F' t) - (R t + R' t)) ≤ max 0 (pre F R t + F t - R t) + max 0 (pre F' R' t + F' t - R' t)
    omega
/-- what the law calls at most -/
def atMost (o o' : Option Int) : Bool := match o, o' with
  | _, none => true
  | none, some _ => false
  | some a, some b => decide (a ≤ b)
theorem lag_mono {F R F' R' : Nat → Int} {o o' : Option Int} (h : ∀ t, F t - R t ≤ F' t - R' t) (a : IsLag F R o) (b : IsLag F' R' o') : atMost o o' = true := by
  match o, o', a, b with
  | none, none, _, _ => rfl
  | some _, none, _, _ => rfl
  | none, some m, a, b => obtain ⟨t, ht⟩ := a m; have := b.2 t; have := pre_mono h (t + 1); omega
  | some m, some m', a, b =>
    obtain ⟨⟨t, ht⟩, _⟩ := a
    have := b.2 t; have := pre_mono h (t + 1)
    exact decide_eq_true (by omega)
theorem lag_sub {F R F' R' : Nat → Int} {a b : Int} {o : Option Int} (h : IsLag F R (some a)) (h' : IsLag F' R' (some b)) (k : IsLag (fun i => F i + F' i) (fun i => R i + R' i) o) : atMost o (some (a + b)) = true := by
  match o, k with
  | none, k => obtain ⟨t, ht⟩ := k (a + b); have := pre_sub F R F' R' (t + 1); have := h.2 t; have := h'.2 t; omega
  | some m, k =>
    obtain ⟨⟨t, ht⟩, _⟩ := k
    have := pre_sub F R F' R' (t + 1); have := h.2 t; have := h'.2 t
    exact decide_eq_true (by omega)
theorem lag_bound {F R : Nat → Int} {o : Option Int} {B : Int} (h : IsLag F R o) (b : ∀ t, pre F R (t + 1) ≤ B) : atMost o (some B) = true := by
  match o, h with
  | none, h => obtain ⟨t, ht⟩ := h B; have := b t; omega
  | some m, h => obtain ⟨⟨t, ht⟩, _⟩ := h; have := b t; exact decide_eq_true (by omega)
/-! ### rates -/
structure IsRate (F : Nat → Int) (most n : Int) : Prop where
  nn : 0 ≤ n
  enough : ∀ t, pre F (fun _ => n) (t + 1) ≤ most
  least : ∀ k, 0 ≤ k → k < n → ∃ t, most < pre F (fun _ => k) (t + 1)
theorem rate_anti {F : Nat → Int} {m m' n n' : Int} (h : m ≤ m') (a : IsRate F m n) (b : IsRate F m' n') : n' ≤ n := by
  refine Decidable.byContradiction fun z => ?_
  obtain ⟨t, ht⟩ := b.least n a.nn (by omega)
  have := a.enough t; omega
theorem rate_mono {F F' : Nat → Int} {m n n' : Int} (h : ∀ t, F t ≤ F' t) (a : IsRate F m n) (b : IsRate F' m n') : n ≤ n' := by
  refine Decidable.byContradiction fun z => ?_
  obtain ⟨t, ht⟩ := a.least n' b.nn (by omega)
  have := b.enough t
  have := pre_mono (F := F) (R := fun _ => n') (F' := F') (R' := fun _ => n') (fun t => by have := h t; show F t - n' ≤ F' t - n'; omega) (t + 1)
  omega
theorem pre_zero {F R : Nat → Int} (h : ∀ t, F t ≤ R t) : ∀ t, pre F R t = 0
  | 0 => rfl
  | t + 1 => by have a := pre_zero h t; have := h t; unfold pre; omega
theorem rate_zero {F : Nat → Int} {n M : Int} (a : IsRate F 0 n) (M0 : 0 ≤ M) (le : ∀ t, F t ≤ M) (is : ∃ t, F t = M) : n = M := by
  obtain ⟨t, ht⟩ := is
  have z : ∀ t, pre F (fun _ => n) t = 0 := fun t => by
    cases t with
    | zero => rfl
    | succ t => have := a.enough t; have := pre_nn F (fun _ => n) (t + 1); omega
  have u := z (t + 1)
  have v : pre F (fun _ => n) (t + 1) = max 0 (pre F (fun _ => n) t + F t - n) := rfl
  rw [u, z t] at v
  have low : M ≤ n := by omega
  refine Int.le_antisymm (Decidable.byContradiction fun y => ?_) low
  obtain ⟨t', h'⟩ := a.least M M0 (by omega)
  rw [pre_zero (R := fun _ => M) le (t' + 1)] at h'
  omega
theorem rate_sum {f p : List Int} {m n : Int} (ne : p ≠ []) (a : IsRate (at_ f p) m n) : p.sum ≤ n * p.length := by
  refine Decidable.byContradiction fun z => ?_
  have pc : ∀ u, f.length ≤ u → (fun _ : Nat => n) (u + p.length) = (fun _ : Nat => n) u := fun _ _ => rfl
  have cs : ∀ k, sumW (fun _ => n) f.length k = n * k := fun k => by
    induction k with
    | zero => show (0 : Int) = n * ((0 : Nat) : Int); simp
    | succ k ih => unfold sumW; rw [ih, Int.natCast_succ, Int.mul_add, Int.mul_one]
  obtain ⟨t, ht⟩ := grows (F := at_ f p) (R := fun _ => n) (c := f.length) (T := p.length) (fun u h => at_per u h) pc (by rw [sum_sub, at_sum, cs]; omega) m
  have := a.enough t; omega
/-! ### kept rows -/
structure IsKeep (F : Nat → Int) (Rs : List (Nat → Int)) (rows : Int) (group : Nat) : Prop where
  le : ∀ R ∈ Rs, ∀ t, pre F R t + F t ≤ rows
  is : ∃ R, Rs[group]? = some R ∧ ∃ t, pre F R t + F t = rows
theorem keep_lag {F R : Nat → Int} {Rs : List (Nat → Int)} {rows m : Int} {g : Nat} (k : IsKeep F Rs rows g) (h : R ∈ Rs) (nn : ∀ t, 0 ≤ F t) (pos : ∀ t, 0 ≤ R t) (l : IsLag F R (some m)) : m ≤ rows := by
  obtain ⟨⟨t, ht⟩, _⟩ := l
  have a := k.le R h t
  have b : pre F R (t + 1) = max 0 (pre F R t + F t - R t) := rfl
  have := pre_nn F R t; have := nn t; have := pos t
  omega
theorem keep_bounded {F : Nat → Int} {Rs : List (Nat → Int)} {rows : Int} {g : Nat} (k : IsKeep F Rs rows g) {R : Nat → Int} (h : R ∈ Rs) (nn : ∀ t, 0 ≤ F t) (pos : ∀ t, 0 ≤ R t) (t : Nat) : pre F R (t + 1) ≤ rows := by
  have a := k.le R h t
  have b : pre F R (t + 1) = max 0 (pre F R t + F t - R t) := rfl
  have := pre_nn F R t; have := nn t; have := pos t
  omega
theorem keep_first {F R : Nat → Int} {Rs : List (Nat → Int)} {rows m M : Int} (k : IsKeep F (R :: Rs) rows 0) (le : ∀ t, F t ≤ M) (m0 : 0 ≤ M) (l : IsLag F R (some m)) : rows ≤ m + M := by
  obtain ⟨R', e, t, ht⟩ := k.is
  cases (Option.some.inj e : R = R')
  have b := le t
  have c : pre F R t ≤ m := by
    cases t with
    | zero => obtain ⟨⟨u, hu⟩, _⟩ := l; have := pre_nn F R (u + 1); show (0 : Int) ≤ m; omega
    | succ t => exact l.2 t
  omega
theorem keep_two {F R R' : Nat → Int} {x y z : Int} {g : Nat} (k : IsKeep F [R, R'] x g) (a : IsKeep F [R] y 0) (b : IsKeep F [R'] z 0) : x = max y z := by
  obtain ⟨S, e, t, ht⟩ := k.is
  obtain ⟨S1, e1, t1, h1⟩ := a.is
  obtain ⟨S2, e2, t2, h2⟩ := b.is
  cases (Option.some.inj e1 : R = S1)
  cases (Option.some.inj e2 : R' = S2)
  have l1 := k.le R (by simp) t1
  have l2 := k.le R' (by simp) t2
  have mem := List.mem_of_getElem? e
  rcases List.mem_cons.mp mem with rfl | mem
  · have := a.le _ (List.mem_singleton.mpr rfl) t; omega
  · rw [List.mem_singleton.mp mem] at ht
    have := b.le _ (List.mem_singleton.mpr rfl) t; omega
theorem keep_swap {F R R' : Nat → Int} {x y : Int} {g g' : Nat} (k : IsKeep F [R, R'] x g) (a : IsKeep F [R', R] y g') : y = x := by
  have go : ∀ {R R' : Nat → Int} {x y : Int} {g g' : Nat}, IsKeep F [R, R'] x g → IsKeep F [R', R] y g' → y ≤ x := fun {R R' x y g g'} k a => by
    obtain ⟨S, e, t, ht⟩ := a.is
    rcases List.mem_cons.mp (List.mem_of_getElem? e) with rfl | mem
    · have := k.le _ (List.mem_cons_of_mem _ (List.mem_singleton.mpr rfl)) t; omega
    · rw [List.mem_singleton.mp mem] at ht
      have := k.le R (by simp) t; omega
  exact Int.le_antisymm (go k a) (go a k)
end KT
end
section
/-! A period written twice, sums that stay timetables. -/
namespace KT
theorem at_twice {f p : List Int} (ne : p ≠ []) (t : Nat) : at_ (f ++ p) (p ++ p) t = at_ f p t := by
  have pos := List.length_pos_iff.mpr ne
  unfold at_
  rw [List.length_append, List.length_append]
  rcases Nat.lt_or_ge t f.length with h | h
  · rw [if_pos (by omega), if_pos h, List.getD_eq_getElem?_getD, List.getD_eq_getElem?_getD, List.getElem?_append_left h]
  · rw [if_neg (show ¬ t < f.length by omega)]
    rcases Nat.lt_or_ge t (f.length + p.length) with g | g
    · rw [if_pos g, Nat.mod_eq_of_lt (by omega), List.getD_eq_getElem?_getD, List.getD_eq_getElem?_getD, List.getElem?_append_right h]
    · rw [if_neg (by omega)]
      have e : (t - (f.length + p.length)) % (p.length + p.length) % p.length = (t - f.length) % p.length := by
        rw [show p.length + p.length = p.length * 2 by omega, Nat.mod_mul_right_mod, show t - f.length = (t - (f.length + p.length)) + p.length by omega, Nat.add_mod_right]
      have lt := Nat.mod_lt (t - (f.length + p.length)) (show 0 < p.length + p.length by omega)
      rw [← e]
      generalize (t - (f.length + p.length)) % (p.length + p.length) = i at lt
      rw [List.getD_eq_getElem?_getD, List.getD_eq_getElem?_getD]
      rcases Nat.lt_or_ge i p.length with c | c
      · rw [Nat.mod_eq_of_lt c, List.getElem?_append_left c]
      · rw [List.getElem?_append_right c, show i % p.length = i - p.length by rw [Nat.mod_eq_sub_mod c, Nat.mod_eq_of_lt (by omega)]]
theorem lcm_small : ∀ a : Fin 5, ∀ b : Fin 5, Nat.lcm a.val b.val ≤ 12 := by decide
theorem lcm_le {a b : Nat} (ha : a ≤ 4) (hb : b ≤ 4) : Nat.lcm a b ≤ 12 := lcm_small ⟨a, by omega⟩ ⟨b, by omega⟩
/-- a drawn timetable -/
structure Small (f p : List Int) (m : Int) : Prop where
  ne : p ≠ []
  few : f.length ≤ 3
  few' : p.length ≤ 4
  low : ∀ x ∈ f ++ p, 0 ≤ x
  high : ∀ x ∈ f ++ p, x ≤ m
theorem Small.good {f p : List Int} {m : Int} (h : Small f p m) (hm : m ≤ 100) : Good f p := ⟨h.ne, by have := h.few; omega, by have := h.few'; omega, h.low, fun x hx => Int.le_trans (h.high x hx) hm⟩
theorem Small.at_low {f p : List Int} {m : Int} (h : Small f p m) (t : Nat) : 0 ≤ at_ f p t := h.low _ (at_mem h.ne t)
theorem Small.at_high {f p : List Int} {m : Int} (h : Small f p m) (t : Nat) : at_ f p t ≤ m := h.high _ (at_mem h.ne t)
theorem Small.twice {f p : List Int} {m : Int} (h : Small f p m) (hm : m ≤ 100) : Good (f ++ p) (p ++ p) := by
  have a := h.few
  have b := h.few'
  refine ⟨fun z => h.ne (List.append_eq_nil_iff.mp z).1, by rw [List.length_append]; omega, by rw [List.length_append]; omega, fun x hx => ?_, fun x hx => ?_⟩
  · refine h.low x ?_
    rcases List.mem_append.mp hx with h | h
    · exact h
    · exact List.mem_append_right _ (by simpa using h)
  · refine Int.le_trans (h.high x ?_) hm
    rcases List.mem_append.mp hx with h | h
    · exact h
    · exact List.mem_append_right _ (by simpa using h)
end KT
end
section
/-! Lags at any tick, sums of all ticks before one, firsts. -/
namespace KT
theorem run_nn (d : Nat → Int) {x : Int} (h : 0 ≤ x) (t : Nat) : ∀ n, 0 ≤ run d x t n
  | 0 => h
  | n + 1 => by unfold run; omega
theorem run_eq (d : Nat → Int) {x : Int} (h : 0 ≤ x) (t n : Nat) : run d x t n = max (x + sumW d t n) (run d 0 t n) := by
  have a := run_le d h t n
  have b := run_ge d x t n
  have e := run_mono d h t n
  omega
theorem run_add (d : Nat → Int) (x : Int) (t m : Nat) : ∀ n, run d x t (m + n) = run d (run d x t m) (t + m) n
  | 0 => rfl
  | n + 1 => by
    show max 0 (run d x t (m + n) + d (t + (m + n))) = max 0 (run d (run d x t m) (t + m) n + d (t + m + n))
    rw [run_add d x t m n, show t + (m + n) = t + m + n by omega]
theorem run_far (d : Nat → Int) (x : Int) {c T : Nat} (per : ∀ u, c ≤ u → d (u + T) = d u) (n : Nat) : ∀ r : Nat, run d x (c + T * r) n = run d x c n
  | 0 => rfl
  | r + 1 => by
    rw [Nat.mul_succ, show c + (T * r + T) = (c + T * r) + T by omega, run_shift d x (fun u h => per u (by omega)) n, run_far d x per n r]
theorem run_many (d : Nat → Int) {x : Int} (hx : 0 ≤ x) {c T : Nat} (per : ∀ u, c ≤ u → d (u + T) = d u) : ∀ r : Nat,
    run d x c (T * (r + 1)) = max (x + ((r + 1 : Nat) : Int) * sumW d c T) (run d 0 c T + (r : Int) * max 0 (sumW d c T))
  | 0 => by
    rw [show T * (0 + 1) = T by omega, run_eq d hx, Int.ofNat_zero, Int.zero_mul, Int.add_zero, show ((0 + 1 : Nat) : Int) = 1 from rfl, Int.one_mul]
  | r + 1 => by
    rw [show T * (r + 1 + 1) = T * (r + 1) + T from Nat.mul_succ _ _, run_add, run_far d _ per T (r + 1), run_eq d (run_nn d hx c _) c T, run_many d hx per r]
    rw [show ((r + 1 + 1 : Nat) : Int) = ((r + 1 : Nat) : Int) + 1 from rfl, Int.add_mul ((r + 1 : Nat) : Int) 1, Int.one_mul, Int.natCast_succ r, Int.add_mul (r : Int) 1 (max 0 _), Int.one_mul]
    generalize sumW d c T = g
    generalize hm : ((r : Int) + 1) * g = y
    have z : g ≤ 0 → (r : Int) * max 0 g = 0 := fun h => by rw [Int.max_eq_left h, Int.mul_zero]
    have n0 : 0 ≤ (r : Int) * max 0 g := Int.mul_nonneg (by omega) (by omega)
    generalize (r : Int) * max 0 g = k at n0 z
    omega
/-- how many wait ahead of a tick behind the fronts -/
def farLag (F R : Nat → Int) (c T : Nat) (t : Nat) : Int :=
  run (fun i => F i - R i) (if (t - c) / T > 0 then max (pre F R c + (((t - c) / T : Nat) : Int) * sumW (fun i => F i - R i) c T) (run (fun i => F i - R i) 0 c T + ((((t - c) / T : Nat) : Int) - 1) * max 0 (sumW (fun i => F i - R i) c T)) else pre F R c) c ((t - c) % T)
theorem pre_far {F R : Nat → Int} {c T : Nat} (W : Two F R c T) {t : Nat} (h : c ≤ t) : pre F R t = farLag F R c T t := by
  unfold farLag
  have per : ∀ u, c ≤ u → (fun i => F i - R i) (u + T) = (fun i => F i - R i) u := fun u h => by show F (u + T) - R (u + T) = F u - R u; rw [W.pF u h, W.pR u h]
  have e : t = c + (T * ((t - c) / T) + (t - c) % T) := by have := Nat.div_add_mod (t - c) T; omega
  conv => lhs; rw [e]
  rw [pre_run, run_add, run_far _ _ per]
  generalize (t - c) / T = r
  cases r with
  | zero => rw [if_neg (by omega)]; rfl
  | succ r =>
    rw [if_pos (by omega), run_many _ (pre_nn F R c) per r, show (((r + 1 : Nat) : Int) - 1) = (r : Int) by omega]
theorem at_upto {f p : List Int} (ne : p ≠ []) (t : Nat) : sumW (at_ f p) 0 t = if t ≤ f.length then (f.take t).sum else f.sum + (((t - f.length) / p.length : Nat) : Int) * p.sum + (p.take ((t - f.length) % p.length)).sum := by
  have first : ∀ n, n ≤ f.length → sumW (at_ f p) 0 n = (f.take n).sum := fun n hn => by
    rw [sumW_congr (b := fun i => f.getD i 0) 0 n, sum_getD f n hn]
    intro i hi
    simp only [Nat.zero_add]
    unfold at_
    rw [if_pos (by omega)]
  split
  · exact first t (by assumption)
  · rename_i h
    have pos := List.length_pos_iff.mpr ne
    have lt := Nat.mod_lt (t - f.length) pos
    have e : t = f.length + (p.length * ((t - f.length) / p.length) + (t - f.length) % p.length) := by have := Nat.div_add_mod (t - f.length) p.length; omega
    conv => lhs; rw [e]
    generalize (t - f.length) / p.length = r
    generalize (t - f.length) % p.length = l at lt
    rw [sum_add, first f.length (Nat.le_refl _), List.take_length, Nat.zero_add, sum_add]
    have s := sum_times (at_ f p) (c := f.length) (q := p.length) (fun v hv => at_per v hv) 0 r
    rw [Nat.add_zero, at_sum] at s
    rw [s]
    have z : sumW (at_ f p) (f.length + p.length * r) l = (p.take l).sum := by
      rw [sumW_off, sumW_congr (b := fun i => p.getD i 0) 0 l, sum_getD p l (by omega)]
      intro i hi
      simp only [Nat.zero_add]
      unfold at_
      rw [if_neg (by omega), show f.length + p.length * r + i - f.length = i + p.length * r by omega, Nat.add_mul_mod_self_left, Nat.mod_eq_of_lt (by omega)]
    rw [z]; omega
/-- a greatest value and the first place of it -/
structure First (g : Nat → Int) (m : Int) (j : Nat) : Prop where
  is : g j = m
  le : ∀ t, g t ≤ m
  early : ∀ t, t < j → g t ≠ m
theorem rowAt {g : Nat → Int} {n i : Nat} (h : i < n) : ((List.range n).map g)[i]? = some (g i) := by rw [List.getElem?_map, List.getElem?_range h]; rfl
theorem First.max {g : Nat → Int} {m m0 : Int} {j n : Nat} (f : First g m j) (h : j < n) (mem : m0 ∈ (List.range n).map g) (all : ∀ y ∈ (List.range n).map g, y ≤ m0) : m0 = m := by
  obtain ⟨t, _, rfl⟩ := List.mem_map.mp mem
  have a := f.le t
  have b := all _ (List.mem_map.mpr ⟨j, List.mem_range.mpr h, rfl⟩)
  rw [f.is] at b
  omega
theorem First.index {g : Nat → Int} {m : Int} {i j n : Nat} (f : First g m j) (h : j < n) (hi : ((List.range n).map g)[i]? = some m) (early : ∀ t, t < i → ¬ ((List.range n).map g)[t]? = some m) : i = j := by
  have lt : i < n := by have := (List.getElem?_eq_some_iff.mp hi).1; rwa [List.length_map, List.length_range] at this
  rw [rowAt lt] at hi
  have e := Option.some.inj hi
  rcases Nat.lt_trichotomy i j with h1 | h1 | h1
  · exact absurd e (f.early i h1)
  · exact h1
  · exact absurd (by rw [rowAt h, f.is]) (early j h1)
/-- the first tick beyond a bound -/
structure Beyond (F : Nat → Int) (n most : Int) (t : Nat) : Prop where
  is : most < pre F (fun _ => n) (t + 1)
  early : ∀ u, u < t → pre F (fun _ => n) (u + 1) ≤ most
/-- kept rows: the greatest number, its first tick, the first group that has it there -/
structure KeepTop (F : Nat → Int) (Rs : List (Nat → Int)) (rows : Int) (tk i : Nat) : Prop where
  is : ∃ R, Rs[i]? = some R ∧ pre F R tk + F tk = rows
  le : ∀ R ∈ Rs, ∀ t, pre F R t + F t ≤ rows
  early : ∀ R ∈ Rs, ∀ t, t < tk → pre F R t + F t ≠ rows
  group : ∀ j R, j < i → Rs[j]? = some R → pre F R tk + F tk ≠ rows
theorem keep_top {F : Nat → Int} {Rs : List (Nat → Int)} {m : Nat → Int} {tk : Nat → Nat} {i : Nat} (hi : i < Rs.length) (inf : ∀ j R, Rs[j]? = some R → First (fun t => pre F R t + F t) (m j) (tk j))
    (best : ∀ j, j < Rs.length → m j < m i ∨ (m j = m i ∧ (tk i < tk j ∨ (tk i = tk j ∧ i ≤ j)))) : KeepTop F Rs (m i) (tk i) i := by
  have hR : Rs[i]? = some Rs[i] := List.getElem?_eq_getElem hi
  refine ⟨⟨_, hR, (inf i _ hR).is⟩, fun R hR t => ?_, fun R hR t lt e => ?_, fun j R lt hR e => ?_⟩
  · obtain ⟨j, hj, rfl⟩ := List.getElem_of_mem hR
    have a := (inf j _ (List.getElem?_eq_getElem hj)).le t
    have a : pre F Rs[j] t + F t ≤ m j := a
    have := best j hj; omega
  · obtain ⟨j, hj, rfl⟩ := List.getElem_of_mem hR
    have f := inf j _ (List.getElem?_eq_getElem hj)
    have a : pre F Rs[j] t + F t ≤ m j := f.le t
    have b := best j hj
    have c : m j = m i := by omega
    exact f.early t (by omega) (e.trans c.symm)
  · have hj := (List.getElem?_eq_some_iff.mp hR).1
    have f := inf j R hR
    have a : pre F R (tk i) + F (tk i) ≤ m j := f.le (tk i)
    have b := best j hj
    have c : m j = m i := by omega
    have d : tk i < tk j := by omega
    exact f.early (tk i) d (e.trans c.symm)
theorem first_of {g : Nat → Int} {m : Int} {j n : Nat} (hj : ((List.range n).map g)[j]? = some m) (first : ∀ i, i < j → ¬ ((List.range n).map g)[i]? = some m) (le : ∀ t, g t ≤ m) : First g m j ∧ j < n := by
  have lt : j < n := by have := (List.getElem?_eq_some_iff.mp hj).1; rwa [List.length_map, List.length_range] at this
  refine ⟨⟨?_, le, fun t ht e => first t ht ?_⟩, lt⟩
  · rw [rowAt lt] at hj; exact Option.some.inj hj
  · rw [rowAt (by omega), e]
end KT
end
section
/-! Tables of sets, whatever stands in them: one more member, and laying anew. -/
namespace MX
open PySem PySem.Spec PyProof.Rows L2

/-- the hashes of a set's rows -/
abbrev hashes (es : Array (Int × Value)) : List Int := es.toList.map (·.1)

theorem len_hashes (es : Array (Int × Value)) : (hashes es).length = es.size := by simp [hashes]

theorem fits_ok {t : SetTable} {es : Array (Int × Value)} (T : TabOk t (hashes es)) (sp : es.size * 5 < t.mask * 3) : t.fits es.size = true := by
  have e := T.sz
  rw [len_hashes] at e
  simp only [SetTable.fits, SetTable.fill, T.dm, e, Bool.and_eq_true, beq_self_eq_true, decide_eq_true_eq, true_and]
  simp
  omega

/-- a row more -/
theorem tab_in {t : SetTable} {es : Array (Int × Value)} (T : TabOk t (hashes es)) (h : Int) (x : Value) {K : Nat} (free : way t.mask h K ∉ t.place.toList) (full : ∀ k, k < K → way t.mask h k ∈ t.place.toList) :
    ∃ p t', t.put (way t.mask h K) = (t', p) ∧ TabOk t' (hashes (SetTable.insertAt es p (h, x))) ∧ t'.mask = t.mask ∧ t'.led = t.led ∧
      (SetTable.insertAt es p (h, x)).size = es.size + 1 ∧ (SetTable.insertAt es p (h, x)).toList.Perm ((h, x) :: es.toList) ∧ t'.fill = es.size + 1 := by
  obtain ⟨e1, e2, T', e3, e4, _, _, _, e5⟩ := T.put free full
  refine ⟨(t.put (way t.mask h K)).2, (t.put (way t.mask h K)).1, rfl, ?_, e3, e4, ?_, ?_, ?_⟩
  · rw [e1]
    unfold hashes
    rw [SetTable.toList_insertAt, List.map_append, List.map_take, List.map_cons, List.map_drop]
    exact T'
  · have q := (SetTable.insertAt_perm es (t.put (way t.mask h K)).2 (h, x)).length_eq
    simpa using q
  · refine (SetTable.insertAt_perm es _ (h, x)).trans ?_
    rw [Array.toList_push]
    exact List.perm_append_singleton _ _
  · rw [e5, len_hashes]

/-- the masks that a set of fewer than 64 members can have when it is laid anew -/
theorem next_mask {m n : Nat} (hm : MaskOk m) (few : n < 64) (before : (n - 1) * 5 < m * 3) (full : n * 5 ≥ m * 3) : ∃ M, SetTable.sizeAbove (SetTable.grown n) - 1 = M ∧ MaskOk M ∧ n ≤ M ∧ n * 5 < M * 3 ∧ SetTable.sizeAbove (SetTable.grown n) ≤ 128 := by
  rcases hm with e | e | e
  · have : n = 5 := by omega
    subst this
    rw [size_20]
    exact ⟨31, rfl, .inr (.inl rfl), by decide, by decide, by decide⟩
  · have : n = 19 := by omega
    subst this
    rw [size_76]
    exact ⟨127, rfl, .inr (.inr rfl), by decide, by decide, by decide⟩
  · omega

theorem pick_map (es : Array (Int × Value)) : ∀ l : List Nat, (∀ i ∈ l, i < es.size) → ∃ rows, l.filterMap (es[·]?) = rows ∧ rows.length = l.length ∧ rows.map (·.1) = l.map fun i => (es.map (·.1)).getD i 0
  | [], _ => ⟨[], rfl, rfl, rfl⟩
  | i :: l, h => by
    obtain ⟨rows, e1, e2, e3⟩ := pick_map es l fun j hj => h j (List.mem_cons_of_mem _ hj)
    have hi : i < es.size := h i List.mem_cons_self
    have e0 : es[i]? = some es[i] := Array.getElem?_eq_getElem hi
    refine ⟨es[i] :: rows, by rw [List.filterMap_cons_some e0, e1], by simp [e2], ?_⟩
    rw [List.map_cons, List.map_cons, e3]
    congr 1
    rw [Array.getD_eq_getD_getElem?, Array.getElem?_map, e0] <;> rfl

/-- all laid anew, when the table is too full -/
theorem tab_anew {t : SetTable} {es : Array (Int × Value)} (T : TabOk t (hashes es)) (few : es.size < 64) (before : (es.size - 1) * 5 < t.mask * 3) (full : t.tooFull = true) :
    ∃ t' order es', t.relaid (es.map (·.1)) (SetTable.grown es.size) = some (t', order) ∧ order.filterMap (es[·]?) = es' ∧ es'.toList.Perm es.toList ∧ es'.size = es.size ∧
      coversAll order es.size = true ∧ TabOk t' (hashes es') ∧ t'.led = t.led ∧ es'.size * 5 < t'.mask * 3 ∧ SetTable.sizeAbove (SetTable.grown es.size) ≤ 128 := by
  have hfull : es.size * 5 ≥ t.mask * 3 := by
    have e := T.sz
    rw [len_hashes] at e
    simpa [SetTable.tooFull, SetTable.fill, T.dm, e] using full
  obtain ⟨M, hM, ok, hn, sp, small⟩ := next_mask T.mok few before hfull
  obtain ⟨t', order, e, pm, T', em, el, _, _⟩ := relaid_ok t (hs := es.map (·.1)) hM ok (by rw [Array.size_map]; exact hn)
  rw [Array.size_map] at pm
  have inside : ∀ i ∈ order.toList, i < es.size := fun i hi => List.mem_range.mp (pm.mem_iff.mp hi)
  obtain ⟨rows, r1, r2, r3⟩ := pick_map es order.toList inside
  have et : (order.filterMap (es[·]?)).toList = rows := by rw [Array.toList_filterMap, r1]
  have pe : (order.filterMap (es[·]?)).toList.Perm es.toList := by
    rw [Array.toList_filterMap]
    exact (pm.filterMap _).trans (by rw [filterMap_getElem?_range])
  have sz : (order.filterMap (es[·]?)).size = es.size := by
    rw [← Array.length_toList, pe.length_eq, Array.length_toList]
  refine ⟨t', order, _, e, rfl, pe, sz, ?_, ?_, el, ?_, small⟩
  · unfold coversAll
    exact List.isPerm_iff.mpr pm
  · unfold hashes
    rw [et, r3]
    exact T'
  · rw [sz, em]
    exact sp

/-- an empty slot is what a search meets that finds no such hash -/
theorem free_slot_ok {t : SetTable} {es : Array (Int × Value)} (T : TabOk t (hashes es)) (sp : es.size * 5 < t.mask * 3) (h : Int) :
    ∃ K, t.freeSlot h = some (way t.mask h K, false) ∧ way t.mask h K ∉ t.place.toList ∧ ∀ k, k < K → way t.mask h k ∈ t.place.toList := by
  obtain ⟨K, few, out, ins⟩ := T.first (by rw [len_hashes]; omega) h
  refine ⟨K, ?_, out, ins⟩
  have z := go_spec t T.ris T.dm (fun _ => h + 1) h (10 * SetTable.turns t.mask) K (runAt t.mask (SetTable.bits h % (t.mask + 1)) (SetTable.bits h)) rfl few ins out
  have e : t.probe (fun _ => h + 1) h (t.probeStart h) = some (.empty (way t.mask h K) none) := by
    rcases z with ⟨_, _, _, _, bad, _⟩ | ⟨_, e⟩
    · exact absurd (show h + 1 = h from bad) (by omega)
    · exact e
  unfold SetTable.freeSlot
  rw [e] <;> rfl

/-- what a scan lays -/
theorem lay_in {t : SetTable} {es : Array (Int × Value)} (T : TabOk t (hashes es)) (sp : es.size * 5 < t.mask * 3) (few : es.size + 1 < 64) (h : Int) (x : Value) :
    ∃ es' t', layNew t es h x = (es', t', false, false) ∧ TabOk t' (hashes es') ∧ t'.mask = t.mask ∧ t'.led = t.led ∧ es'.size = es.size + 1 ∧ es'.toList.Perm ((h, x) :: es.toList) := by
  obtain ⟨K, e, out, ins⟩ := free_slot_ok T sp h
  obtain ⟨p, t', e1, T', em, el, sz, pm, ef⟩ := tab_in T h x out ins
  have hfit : t'.fits (SetTable.insertAt es p (h, x)).size = true := by
    have q := T'.sz
    rw [len_hashes] at q
    have big : 7 ≤ t'.mask := by rcases T'.mok with z | z | z <;> omega
    simp only [SetTable.fits, ef, q, beq_self_eq_true, Bool.true_and, decide_eq_true_eq]
    omega
  refine ⟨_, t', ?_, T', em, el, sz, pm⟩
  unfold layNew
  rw [e]
  simp only [e1]
  rw [show t'.orStandIn (SetTable.insertAt es p (h, x)).size = t' from by unfold SetTable.orStandIn; rw [if_pos hfit], hfit] <;> rfl
end MX
end
section
/-! A set with fewer than 64 members: its table is sound; adding to it. -/
namespace MX
open PySem PySem.Spec PyProof.Rows L2

/-- at a stands a set of these rows -/
structure Held (w : World) (h : Heap) (a : Addr) (es : Array (Int × Value)) (ep : Nat) (t : SetTable) : Prop where
  obj : ∃ o, h.get? a = some o ∧ o.ExactSet ∧ o.data = .set es ep t
  tab : TabOk t (hashes es)
  order : w.params.followText "set-order" = true ∨ t.led = true
  space : es.size * 5 < t.mask * 3
  few : es.size < 64

theorem Held.fits {w : World} {h : Heap} {a : Addr} {es : Array (Int × Value)} {ep : Nat} {t : SetTable} (R : Held w h a es ep t) : t.fits es.size = true := fits_ok R.tab R.space
theorem Held.stays {w : World} {h h' : Heap} {a : Addr} {es : Array (Int × Value)} {ep : Nat} {t : SetTable} (R : Held w h a es ep t) (k : ∀ o, h.get? a = some o → h'.get? a = some o) : Held w h' a es ep t := by
  obtain ⟨o, ho, more⟩ := R.obj
  exact { R with obj := ⟨o, k o ho, more⟩ }
/-- plain or not says nothing of the slots -/
theorem dull {t : SetTable} {hs : List Int} (T : TabOk t hs) : TabOk { t with plain := false } hs := by
  cases t
  exact ⟨T.ris, T.dm, T.sz, T.mok, T.bd, T.reach⟩

section
variable {P : Program} {w : World} {A : Around} {E : Value → Shared → Prop} {s : Shared} {a : Addr} {es : Array (Int × Value)} {ep : Nat} {t : SetTable}

/-- other rows are stored -/
theorem put_rows {o : Obj} {es' : Array (Int × Value)} {t' : SetTable} {h : Heap} (ho : h.get? a = some o) (hx : o.ExactSet) (hd : o.data = .set es ep t) (T : TabOk t' (hashes es')) (ord : w.params.followText "set-order" = true ∨ t'.led = true)
    (sp : es'.size * 5 < t'.mask * 3) (few : es'.size < 64) : Held w (h.update a (Obj.putSet es' t')) a es' (ep + 1) t' := by
  refine ⟨⟨{ o with data := .set es' (ep + 1) t' }, ?_, hx, rfl⟩, T, ord, sp, few⟩
  have e := Heap.get?_update_self (Obj.putSet es' t') ho (by rw [putSet_of es' t' hd] <;> rfl)
  rw [putSet_of es' t' hd] at e
  exact e

theorem sizes {n : Nat} (few : n < 64) : n ≤ sizeLine := by rw [sizeLine_eq]; omega

/-- behind a store: laid anew by a scan's way, if the table is too full -/
theorem scan_end {Q : Option Bool → Shared → Prop} {o : Obj} {es1 : Array (Int × Value)} {t1 : SetTable} {n : Nat} (ho : s.heap.get? a = some o) (hx : o.ExactSet) (hd : o.data = .set es ep t)
    (T : TabOk t1 (hashes es1)) (ord : w.params.followText "set-order" = true ∨ t1.led = true) (sp : n * 5 < t1.mask * 3) (hn : es1.size = n + 1) (few : es1.size < 64) {g : Bool → Sem Unit} (hg : g false = pure ())
    (q : ∀ h' es2 ep2 t2, Heap.SameBut a s.heap h' → Held w h' a es2 ep2 t2 → es2.toList.Perm es1.toList → Q (some true) { s with heap := h' }) :
    wpAny (model P w) A (do
      storeSet a es1 t1
      if (!false && t1.tooFull) = true then do
        g (relayAll t1 es1 (SetTable.grown es1.size)).2.2
        storeSet a (relayAll t1 es1 (SetTable.grown es1.size)).1 (relayAll t1 es1 (SetTable.grown es1.size)).2.1
        pure (some true)
      else pure (some true)) Q E s := by
  refine wpAny_bind (wpAny_storeSet_of ho hd ?_ (sizes few))
  have same1 := Heap.SameBut.update s.heap a (Obj.putSet es1 t1)
  have o1 := Heap.get?_update_self (Obj.putSet es1 t1) ho (by rw [putSet_of es1 t1 hd] <;> rfl)
  rw [putSet_of es1 t1 hd] at o1
  rcases Bool.eq_false_or_eq_true t1.tooFull with full | notFull
  · obtain ⟨t2, order, es2, e1, e2, pm, sz, cov, T2, el, sp2, _⟩ := tab_anew T few (by rw [hn]; exact sp) full
    have fit2 : t2.fits es2.size = true := fits_ok T2 sp2
    have er : relayAll t1 es1 (SetTable.grown es1.size) = (es2, t2, false) := by
      unfold relayAll
      rw [e1]
      simp only [e2, cov, fit2, Bool.and_self, if_true]
    rw [full, er]
    refine wp_if_pos rfl ?_
    dsimp only
    rw [hg]
    refine wpAny_bind (wpAny_pure ?_)
    refine wpAny_bind (wpAny_storeSet_of o1 rfl ?_ (sizes (by rw [sz]; exact few)))
    refine wpAny_pure (q _ es2 _ t2 (same1.trans (Heap.SameBut.update _ a _)) (put_rows o1 hx rfl T2 (ord.imp id fun z => el.trans z) sp2 (by rw [sz]; exact few)) pm)
  · rw [notFull]
    refine wp_if_neg (by decide) (wpAny_pure (q _ es1 _ t1 same1 (put_rows ho hx hd T ord ?_ few) (List.Perm.refl _)))
    have e := T.sz
    rw [len_hashes] at e
    have big := notFull
    simp only [SetTable.tooFull, SetTable.fill, T.dm, e, decide_eq_false_iff_not] at big
    simp at big
    omega

/-- the same by the other way of laying anew -/
theorem relay_end {Q : Unit → Shared → Prop} {o : Obj} (ho : s.heap.get? a = some o) (hx : o.ExactSet) (hd : o.data = .set es ep t) (T : TabOk t (hashes es)) (ord : w.params.followText "set-order" = true ∨ t.led = true)
    {n : Nat} (sp : n * 5 < t.mask * 3) (hn : es.size = n + 1) (few : es.size < 64) (full : t.tooFull = true)
    (q : ∀ h' es2 ep2 t2, Heap.SameBut a s.heap h' → Held w h' a es2 ep2 t2 → es2.toList.Perm es.toList → Q () { s with heap := h' }) : wpAny (model P w) A (setRelay a (SetTable.grown es.size)) Q E s := by
  obtain ⟨t2, order, es2, e1, e2, pm, sz, _, T2, el, sp2, low⟩ := tab_anew T few (by rw [hn]; exact sp) full
  have fit : t.fits es.size = true := by
    have e := T.sz
    rw [len_hashes] at e
    have big : 7 ≤ t.mask := by rcases T.mok with z | z | z <;> omega
    simp only [SetTable.fits, SetTable.fill, T.dm, e, beq_self_eq_true, Bool.true_and, decide_eq_true_eq]
    simp
    omega
  rw [setRelay_eq]
  refine wpAny_bind (wpAny_setState_of ho hd fit ?_)
  dsimp only
  refine wp_if_neg (by rw [sizeLine_eq]; omega) ?_
  try refine wpAny_bind (wpAny_pure ?_)
  rw [e1]
  dsimp only
  rw [e2]
  have eq0 : ¬ (es2.size != es.size) = true := by rw [sz]; simp
  refine wpAny_bind (wp_if_neg eq0 ?_)
  try refine wpAny_bind (wpAny_pure ?_)
  refine wpAny_pure ?_
  refine wpAny_storeSet_of ho hd ?_ (sizes (by rw [sz]; exact few))
  exact q _ es2 _ t2 (Heap.SameBut.update _ a _) (put_rows ho hx hd T2 (ord.imp id fun z => el.trans z) sp2 (by rw [sz]; exact few)) pm
end
end MX
end
section
/-! Adding: by a scan (numbers, words), and by the table (tuples). -/
namespace MX
open PySem PySem.Spec PyProof.Rows L2

section
variable {P : Program} {w : World} {A : Around} {E : Value → Shared → Prop} {s : Shared} {a : Addr} {es : Array (Int × Value)} {ep : Nat} {t : SetTable}

/-- a number or a word is added -/
theorem add_leaf {K : Type} [DecidableEq K] {knd : KeyKind P w K} {k : K} {x : Value} {Q : Bool → Shared → Prop} (R : Held w s.heap a es ep t) (el : ElemsOf knd es.toList) (hk : knd.is k x = true) (hx : x.scannable = true) (room : es.size + 1 < 64)
    (old : ∀ e ∈ es.toList, knd.is k e.2 = true → Q false s)
    (new : (∀ e ∈ es.toList, knd.is k e.2 = false) → ∀ h' es' ep' t', Heap.SameBut a s.heap h' → Held w h' a es' ep' t' → es'.toList.Perm ((knd.hash k, x) :: es.toList) → Q true { s with heap := h' }) :
    wpAny (model P w) A (setAddHashed a x (knd.hash k)) Q E s := by
  obtain ⟨o, ho, ex, hd⟩ := R.obj
  have scan : byScan x es = true := byScan_of hx (Nat.lt_trans R.few (by decide)) el
  unfold setAddHashed
  refine wpAny_holding ?_
  rw [show (100000 : Nat) = 99999 + 1 from rfl, setAddHashedIn_succ]
  refine wpAny_bind (wpAny_setState_of ho hd R.fits ?_)
  dsimp only
  refine wp_if_pos scan ?_
  unfold setAddByScan
  refine wpAny_bind (wpAny_bind (wpAny_rule (wpAny_bind (wpAny_setScan_of hk ho hd R.fits el ?_))))
  cases hf : List.findIdx? (fun e => knd.is k e.2) es.toList with
  | some j =>
    obtain ⟨hj, yes, _⟩ := List.findIdx?_eq_some_iff_getElem.mp hf
    exact wpAny_pure (wpAny_pure (old _ (List.getElem_mem hj) yes))
  | none =>
    have absent : ∀ e ∈ es.toList, knd.is k e.2 = false := fun e he => by
      have z := List.findIdx?_eq_none_iff.mp hf e he
      simpa using z
    obtain ⟨es1, t1, e1, T1, em, eled, sz, pm⟩ := lay_in R.tab R.space room (knd.hash k) x
    dsimp only
    rw [e1]
    dsimp only
    refine wpAny_bind (wpAny_pure ?_)
    have ord1 : w.params.followText "set-order" = true ∨ t1.led = true := R.order.imp id fun z => eled.trans z
    have sp1 : es.size * 5 < t1.mask * 3 := by rw [em]; exact R.space
    have last : ∀ h' es2 ep2 t2, Heap.SameBut a s.heap h' → Held w h' a es2 ep2 t2 → es2.toList.Perm es1.toList → Q true { s with heap := h' } := fun h' es2 ep2 t2 sb H2 p2 => new absent h' es2 ep2 t2 sb H2 (p2.trans pm)
    by_cases pl : t1.plain = true
    · refine wp_if_pos pl ?_
      rw [hashByValue_scannable 8 hx]
      refine wpAny_bind (wpAny_pure ?_)
      refine scan_end ho ex hd (t1 := if plainKind x = true then t1 else { t1 with plain := false }) (n := es.size) ?_ ?_ ?_ sz (by rw [sz]; exact room) rfl fun h' es2 ep2 t2 sb H2 p2 => ?_
      · split
        · exact T1
        · exact dull T1
      · split
        · exact ord1
        · exact ord1
      · split
        · exact sp1
        · exact sp1
      · exact wpAny_pure (last h' es2 ep2 t2 sb H2 p2)
    · refine wp_if_neg pl ?_
      refine wpAny_bind (wpAny_pure ?_)
      refine scan_end ho ex hd (t1 := t1) (n := es.size) T1 ord1 sp1 sz (by rw [sz]; exact room) rfl fun h' es2 ep2 t2 sb H2 p2 => ?_
      exact wpAny_pure (last h' es2 ep2 t2 sb H2 p2)

/-- a place on the way of a hash -/
abbrev spot (m : Nat) (h : Int) (c : Nat) : SetTable.Probe := nth m (runAt m (SetTable.bits h % (m + 1)) (SetTable.bits h)) c
theorem spot_plain (m : Nat) (h : Int) : ∀ c, (spot m h c).dummy = none := by
  have step : ∀ p : SetTable.Probe, (adv m p).dummy = p.dummy := fun p => by unfold adv; split <;> rfl
  intro c
  induction c with
  | zero => rfl
  | succ c ih => show (nth m _ (c + 1)).dummy = none; rw [nth_succ, step]; exact ih

/-- the search of an adding: what is the same is found, or the first empty slot -/
theorem seek {h : Int} {x : Value} {same : Value → Bool} {Q : SetFound → Shared → Prop} (R : Held w s.heap a es ep t)
    (eqs : ∀ e ∈ es.toList, e.1 = h → ∀ (Q' : Bool → Shared → Prop), Q' (same e.2) s → wpAny (model P w) A (eqBool e.2 x) Q' E s)
    (refs : ∀ e ∈ es.toList, ∃ b, e.2 = Value.ref b)
    (seen : ∀ (ys : List Value) (Q' : Bool → Shared → Prop), (∀ y ∈ ys, ∃ e ∈ es.toList, e.2 = y) → Q' false s → wpAny (model P w) A (searchCouldBeSeen x ys) Q' E s)
    {K : Nat} (low : K < 10 * SetTable.turns t.mask) (out : way t.mask h K ∉ t.place.toList) (ins : ∀ k, k < K → way t.mask h k ∈ t.place.toList)
    (old : ∀ e ∈ es.toList, e.1 = h → same e.2 = true → Q (.there none) s) (new : (∀ e ∈ es.toList, e.1 = h → same e.2 = false) → Q (.free (way t.mask h K) false) s) :
    ∀ (f c : Nat) (stand : Option SetTable.Probe), stand.getD (t.probeStart h) = spot t.mask h c → c ≤ K → K - c < f →
      (∀ k, k < c → ∀ (i : Nat) e, t.place.toList[i]? = some (way t.mask h k) → es[i]? = some e → e.1 = h → same e.2 = false) →
      wpAny (model P w) A (setSearchFrom a x h true f stand) Q E s := by
  obtain ⟨o, ho, ex, hd⟩ := R.obj
  have odd : ¬ t.gaveWay = true := by
    unfold SetTable.gaveWay
    rw [mask_odd R.tab.mok]
    decide
  have rowAt : ∀ {i : Nat} {j : Nat}, t.place.toList[i]? = some j → ∃ e, es[i]? = some e ∧ e ∈ es.toList := fun {i j} hi => by
    have h1 : i < t.place.toList.length := (List.getElem?_eq_some_iff.mp hi).1
    have h2 := R.tab.sz
    rw [len_hashes] at h2
    have h3 : i < es.size := by rw [Array.length_toList, h2] at h1; exact h1
    exact ⟨es[i], Array.getElem?_eq_getElem h3, by simp⟩
  intro f
  induction f with
  | zero => intro c _ _ _ hf; exact absurd hf (Nat.not_lt_zero _)
  | succ f again =>
    intro c stand hst hc hf past
    have move : ∀ q, nth t.mask (spot t.mask h c) q = spot t.mask h (c + q) := fun q => (nth_add t.mask c _ q).symm
    have far : c + (K - c) = K := by omega
    rw [setSearchFrom_succ]
    refine wpAny_bind (wpAny_setState_of ho hd R.fits ?_)
    dsimp only
    refine wp_if_neg odd ?_
    try refine wpAny_bind (wpAny_pure ?_)
    have met := go_spec t R.tab.ris R.tab.dm (fun i => (es[i]?.map (·.1)).getD 0) h (10 * SetTable.turns t.mask) (K - c) (spot t.mask h c) (spot_plain _ _ c) (by omega)
      (fun q hq => by rw [move]; exact ins (c + q) (by omega)) (by rw [move, far]; exact out)
    rw [hst]
    have passed : ∀ q, q ≤ K - c → (∀ (k' i' : Nat), k' < q → t.place.toList[i']? = some (nth t.mask (spot t.mask h c) k').j → (es[i']?.map (·.1)).getD 0 ≠ h) →
        ∀ k, k < c + q → ∀ (i : Nat) e, t.place.toList[i]? = some (way t.mask h k) → es[i]? = some e → e.1 = h → same e.2 = false := fun q hq no k hk i e hi he eh => by
      rcases Nat.lt_or_ge k c with z | z
      · exact past k z i e hi he eh
      · refine absurd ?_ (no (k - c) i (by omega) (by rw [move, show c + (k - c) = k by omega]; exact hi))
        rw [he]
        exact eh
    rcases met with ⟨q, i, hq, hi, hh, no, e⟩ | ⟨no, e⟩
    · have e' : t.probe (fun i => (es[i]?.map (·.1)).getD 0) h (spot t.mask h c) = _ := e
      rw [e']
      dsimp only
      rw [move] at hi
      obtain ⟨r, hr, mem⟩ := rowAt hi
      have hrh : r.1 = h := by
        rw [hr] at hh
        exact hh
      obtain ⟨b, hb⟩ := refs r mem
      have go_on : wpAny (model P w) A (searchRest a x h true f es t (nth t.mask (spot t.mask h c) q).j i (nth t.mask (spot t.mask h c) (q + 1))) Q E s := by
        unfold searchRest
        rw [hr]
        dsimp only
        refine wpAny_bind (wpAny_holding (eqs r mem hrh _ ?_))
        refine wpAny_bind (wpAny_setState_of ho hd R.fits ?_)
        dsimp only
        cases hs : same r.2 with
        | true => exact wp_if_pos rfl (wpAny_pure (old r mem hrh hs))
        | false =>
          refine wp_if_neg (by decide) ?_
          try refine wpAny_bind (wpAny_pure ?_)
          rw [sameMem]
          dsimp only
          have live : t.slot (nth t.mask (spot t.mask h c) q).j = .live i := by rw [move]; exact slot_live R.tab.ris hi
          simp only [if_true, live, hr]
          rw [hb]
          refine wpAny_bind (wpAny_isSame_ref_self (wpAny_bind (wpAny_pure ?_)))
          simp only [if_true]
          refine wp_if_neg (by decide) ?_
          refine again (c + (q + 1)) _ (by rw [← move]; rfl) (by omega) (by omega) fun k hk i' e2 hi' he2 eh => ?_
          rcases Nat.lt_or_ge k (c + q) with z | z
          · exact passed q (by omega) no k z i' e2 hi' he2 eh
          · have ek : k = c + q := by omega
            rw [ek] at hi'
            have l2 := slot_live R.tab.ris hi'
            have l1 := slot_live R.tab.ris hi
            rw [l1] at l2
            injection l2 with l2
            rw [← l2, hr] at he2
            rw [← Option.some.inj he2]
            exact hs
      by_cases led : t.led = true
      · refine wp_if_neg (by simp [led]) ?_
        try refine wpAny_bind (wpAny_pure ?_)
        exact go_on
      · refine wp_if_pos (by simp [led]) ?_
        refine wpAny_bind (seen _ _ (fun y hy => ?_) ?_)
        · obtain ⟨e2, m2, rfl⟩ := List.mem_map.mp hy
          have m3 : e2 ∈ es ∧ e2.1 = h := by simpa using m2
          exact ⟨e2, by simpa using m3.1, rfl⟩
        · refine wp_if_neg (by decide) ?_
          try refine wpAny_bind (wpAny_pure ?_)
          exact go_on
    · have e' : t.probe (fun i => (es[i]?.map (·.1)).getD 0) h (spot t.mask h c) = _ := e
      rw [e']
      dsimp only
      refine wpAny_pure ?_
      rw [move, far]
      refine new fun r mem eh => ?_
      obtain ⟨i, hi, er⟩ := List.getElem_of_mem mem
      have hi2 : i < es.size := by simpa using hi
      have hr : es[i]? = some r := by rw [Array.getElem?_eq_getElem hi2, ← er] <;> simp
      have hp : i < t.place.toList.length := by
        have h2 := R.tab.sz
        rw [len_hashes] at h2
        rw [Array.length_toList, h2]
        exact hi2
      have hhs : (hashes es)[i]? = some h := by
        unfold hashes
        rw [List.getElem?_map, Array.getElem?_toList, hr, ← eh] <;> rfl
      obtain ⟨k, hk, ek⟩ := R.tab.before out hhs (List.getElem?_eq_getElem hp)
      exact passed (K - c) (Nat.le_refl _) no k (by rw [far]; exact hk) i r (by rw [List.getElem?_eq_getElem hp, ek]) hr eh
end
end MX
end
section
/-! Sets of tuples of numbers and words. -/
namespace MX
open PySem PySem.Spec PyProof.Rows L2

abbrev MT : Type := List Key
/-- the tuple at a has these items -/
abbrev TAt (P : Program) (w : World) (h : Heap) (k : MT) (a : Addr) : Prop := IsTupleKey (mixKind P w) h k a
abbrev mhash (P : Program) (w : World) (k : MT) : Int := tupleKeyHash (mixKind P w) k

/-- a number or a word -/
def Leaf (v : Value) : Prop := (∃ i t, v = .int i t) ∨ ∃ x t, v = .str x t
theorem Leaf.of_key {P : Program} {w : World} {k : Key} {v : Value} (h : (mixKind P w).is k v = true) : Leaf v := by
  rcases keyIs_shape h with ⟨i, t, _, e⟩ | ⟨x, t, _, e⟩
  · exact .inl ⟨i, t, e⟩
  · exact .inr ⟨x, t, e⟩
theorem leaves {P : Program} {w : World} {k : MT} {vs : List Value} (h : ItemsAre (mixKind P w) k vs) : ∀ v ∈ vs, Leaf v := by
  induction h with
  | nil => intro v hv; cases hv
  | cons h1 _ ih =>
    intro v hv
    rcases List.mem_cons.mp hv with rfl | hv
    · exact Leaf.of_key h1
    · exact ih v hv
theorem leaf_class {v : Value} (l : Leaf v) (n : Nat) : ofAClassStatement n v = pure false := by
  rcases l with ⟨i, t, rfl⟩ | ⟨x, t, rfl⟩ <;> cases n <;> rfl
theorem leaf_hash {v : Value} (l : Leaf v) (n : Nat) : ∃ b, hashByValue n v = pure b := by
  rcases l with ⟨i, t, rfl⟩ | ⟨x, t, rfl⟩
  · exact ⟨true, by cases n <;> rfl⟩
  · exact ⟨false, by cases n <;> rfl⟩
theorem tat_kept {P : Program} {w : World} {h h' : Heap} {k : MT} {a : Addr} (x : TAt P w h k a) (keep : ∀ b o, h.get? b = some o → h'.get? b = some o) : TAt P w h' k a := by
  obtain ⟨o, items, n, ho, more⟩ := x
  exact ⟨o, items, n, keep a o ho, more⟩

section
variable {P : Program} {w : World} {A : Around} {E : Value → Shared → Prop} {s : Shared}

/-- the items of a sequence are read off its object -/
theorem items_read {M : Model} {β : Type} {v : Value} {a : Addr} {items : Array Value} {k : Option (Array Value) → Sem β} {Q : β → Shared → Prop} (at_ : ∃ o n, s.heap.get? a = some o ∧ o.data = .seq items n) (go : wpAny M A (k (some items)) Q E s) (ev : v = .ref a := by rfl) : wpAny M A (seqItems? v >>= k) Q E s := by
  obtain ⟨o, n, ho, hd⟩ := at_
  subst ev
  exact wpAny_bind (wpAny_seqItems ho hd go)
/-- a loop over items, item by item -/
theorem each_item {M : Model} {β : Type} {items : Array Value} {z : β} {f : Value → β → Sem (ForInStep β)} {Q : β → Shared → Prop} (I : List Value → β → Shared → Prop) (i0 : I items.toList z s)
    (turn : ∀ v rest r s', I (v :: rest) r s' → wpAny M A (f v r) (fun y s'' => match y with | .yield r' => I rest r' s'' | .done r' => Q r' s'') E s') (last : ∀ r s', I [] r s' → Q r s') : wpAny M A (forIn items z f) Q E s := by
  simpa using wpAny_forIn_list f I Q turn last items.toList z i0

/-- whether it is hashed by value: either answer -/
theorem ask_hash {k : MT} {b : Addr} {Q : Bool → Shared → Prop} (x : TAt P w s.heap k b) (q : ∀ y, Q y s) : wpAny (model P w) A (hashByValue 8 (.ref b)) Q E s := by
  have ty := x.typeIs
  obtain ⟨o, items, n, ho, _, hd, hi⟩ := x
  have lv := leaves hi
  unfold hashByValue
  refine wpAny_bind (wpAny_specialOf ty F.slot_tuple_hash.lookup ?_)
  refine items_read (v := .ref b) ⟨o, n, ho, hd⟩ (wpAny_bind (each_item (fun rest _ s' => s' = s ∧ ∀ v ∈ rest, Leaf v) ⟨rfl, lv⟩ (fun v rest r s' ⟨es, all⟩ => ?_) fun r s' ⟨es, _⟩ => ?_))
  · obtain ⟨y, ey⟩ := leaf_hash (all v List.mem_cons_self) 7
    subst es
    rw [ey]
    refine wpAny_bind (wpAny_pure ?_)
    cases y with
    | true => exact wpAny_pure ⟨rfl, fun u hu => all u (List.mem_cons_of_mem _ hu)⟩
    | false => exact wpAny_pure (wpAny_pure (q _))
  · subst es
    obtain ⟨r1, r2⟩ := r
    cases r1 with
    | none => exact wpAny_pure (q _)
    | some z => exact wpAny_pure (q _)

/-- no class statement's object is under it -/
theorem ask_class {k : MT} {b : Addr} {Q : Bool → Shared → Prop} (x : TAt P w s.heap k b) (q : Q false s) : wpAny (model P w) A (ofAClassStatement 8 (.ref b)) Q E s := by
  have ty := x.typeIs
  obtain ⟨o, items, n, ho, _, hd, hi⟩ := x
  have lv := leaves hi
  unfold ofAClassStatement
  refine wpAny_bind (wpAny_typeOf ty ?_)
  have e : (("tuple" : String) == "tuple") = true := by decide
  simp only [e, if_true]
  refine wpAny_bind (wpAny_pure ?_)
  simp only [Bool.not_true, Bool.false_eq_true, if_false]
  refine items_read (v := .ref b) ⟨o, n, ho, hd⟩ (wpAny_bind (each_item (fun rest r s' => r.1 = none ∧ s' = s ∧ ∀ v ∈ rest, Leaf v) ⟨rfl, rfl, lv⟩ (fun v rest r s' ⟨er, es, all⟩ => ?_) fun r s' ⟨er, es, _⟩ => ?_))
  · rw [leaf_class (all v List.mem_cons_self)]
    exact wpAny_bind (wpAny_pure (wpAny_pure ⟨rfl, es, fun u hu => all u (List.mem_cons_of_mem _ hu)⟩))
  · obtain ⟨r1, r2⟩ := r
    dsimp only at er
    subst er es
    exact wpAny_pure q

/-- a search among such tuples is seen by nobody -/
theorem ask_seen {k : MT} {b : Addr} {Q : Bool → Shared → Prop} (x : TAt P w s.heap k b) {ys : List Value} (hy : ∀ y ∈ ys, ∃ k' c, y = .ref c ∧ TAt P w s.heap k' c) (q : Q false s) : wpAny (model P w) A (searchCouldBeSeen (.ref b) ys) Q E s := by
  unfold searchCouldBeSeen
  refine wpAny_bind ?_
  refine wpAny_forIn_list _ (fun rest r s' => r.1 = none ∧ s' = s ∧ ∀ y ∈ rest, ∃ k' c, y = .ref c ∧ TAt P w s.heap k' c) _ (fun v rest r s' ⟨er, es, all⟩ => ?_) (fun r s' ⟨er, es, _⟩ => ?_) _ _ ⟨rfl, rfl, hy⟩
  · obtain ⟨k', c, rfl, xc⟩ := all v List.mem_cons_self
    have left : ∀ y ∈ rest, ∃ k' c, y = Value.ref c ∧ TAt P w s.heap k' c := fun u hu => all u (List.mem_cons_of_mem _ hu)
    subst es
    dsimp only
    rcases Bool.eq_false_or_eq_true (b == c || (carriedByValue (.ref b) && carriedByValue (.ref c))) with y | n
    · exact wp_if_pos y (wpAny_pure ⟨rfl, rfl, left⟩)
    · refine wp_if_neg (by rw [n]; decide) (wpAny_bind (wpAny_eqIsQuiet_tuple x ?_))
      refine wp_if_neg (by decide) (wpAny_bind (wpAny_eqIsQuiet_tuple xc ?_))
      refine wp_if_neg (by decide) (wpAny_bind (ask_class x ?_))
      refine wp_if_neg (by decide) (wpAny_bind (ask_class xc ?_))
      exact wp_if_neg (by decide) (wpAny_pure ⟨rfl, rfl, left⟩)
  · obtain ⟨r1, r2⟩ := r
    dsimp only at er
    subst er es
    exact wpAny_pure q
end
end MX
end
section
/-! A tuple is added to a set of tuples. -/
namespace MX
open PySem PySem.Spec PyProof.Rows L2

abbrev rowT (P : Program) (w : World) (p : Addr × MT) : Int × Value := (mhash P w p.2, .ref p.1)
/-- the set at a has these tuples: where each stands, and what it is -/
structure SetM (P : Program) (w : World) (h : Heap) (a : Addr) (L : List (Addr × MT)) : Prop where
  held : ∃ es ep t, Held w h a es ep t ∧ es.toList.Perm (L.map (rowT P w))
  once : (L.map (·.2)).Nodup
  here : ∀ p ∈ L, TAt P w h p.2 p.1
open Classical in
/-- with one more, if it is new -/
noncomputable def oneMore (L : List (Addr × MT)) (x : Addr) (k : MT) : List (Addr × MT) := if k ∈ L.map (fun p : Addr × MT => p.2) then L else (x, k) :: L

theorem SetM.kept {P : Program} {w : World} {h h' : Heap} {a : Addr} {L : List (Addr × MT)} (R : SetM P w h a L) (k : ∀ b o, h.get? b = some o → h'.get? b = some o) : SetM P w h' a L := by
  obtain ⟨es, ep, t, H, pm⟩ := R.held
  exact ⟨⟨es, ep, t, H.stays (k a), pm⟩, R.once, fun p hp => tat_kept (R.here p hp) k⟩
theorem size_of {P : Program} {w : World} {es : Array (Int × Value)} {L : List (Addr × MT)} (pm : es.toList.Perm (L.map (rowT P w))) : es.size = L.length := by
  have e := pm.length_eq
  rw [List.length_map, Array.length_toList] at e
  exact e

section
variable {P : Program} {w : World} {A : Around} {E : Value → Shared → Prop} {s : Shared}

/-- tuples stay where a set is stored to -/
theorem tat_but {h h' : Heap} {a b : Addr} {k : MT} {o : Obj} {es : Array (Int × Value)} {ep : Nat} {t : SetTable} (x : TAt P w h k b) (ho : h.get? a = some o) (hd : o.data = .set es ep t) (sb : Heap.SameBut a h h') : TAt P w h' k b := by
  obtain ⟨u, items, n, hu, hc, hi, more⟩ := x
  have ne : b ≠ a := fun e => by
    subst e
    rw [ho] at hu
    cases hu
    rw [hd] at hi
    cases hi
  exact ⟨u, items, n, (sb.2 b ne).trans hu, hc, hi, more⟩

theorem add_tup {a x : Addr} {L : List (Addr × MT)} {k : MT} {Q : Bool → Shared → Prop} (R : SetM P w s.heap a L) (hx : TAt P w s.heap k x) (hu : A.units < cLine) (room : L.length + 1 < 64)
    (q : ∀ b h', Heap.SameBut a s.heap h' → SetM P w h' a (oneMore L x k) → Q b { s with heap := h' }) : wpAny (model P w) A (setAddHashed a (.ref x) (mhash P w k)) Q E s := by
  obtain ⟨es, ep, t, H, pm⟩ := R.held
  obtain ⟨o, ho, ex, hd⟩ := H.obj
  have sz := size_of pm
  have rows : ∀ e ∈ es.toList, ∃ p ∈ L, e = rowT P w p := fun e he => by
    obtain ⟨p, hp, z⟩ := List.mem_map.mp (pm.mem_iff.mp he)
    exact ⟨p, hp, z.symm⟩
  have one : ∀ p ∈ L, ∀ p' ∈ L, p.1 = p'.1 → p.2 = p'.2 := fun p hp p' hp' e => by
    have z := R.here p' hp'
    rw [← e] at z
    exact (tupleKind (mixKind P w)).inj (R.here p hp) z
  obtain ⟨K, low, out, ins⟩ := H.tab.first (by rw [len_hashes]; have := H.space; omega) (mhash P w k)
  have small : 10 * SetTable.turns t.mask ≤ 1420 := by
    unfold SetTable.turns
    rcases H.tab.mok with e | e | e <;> omega
  have none_in : (∀ e ∈ es.toList, e.1 = mhash P w k → (decide (∃ p ∈ L, e.2 = Value.ref p.1 ∧ p.2 = k)) = false) → k ∉ L.map (·.2) := fun no hm => by
    obtain ⟨p, hp, e⟩ := List.mem_map.mp hm
    have z := no (rowT P w p) (pm.mem_iff.mpr (List.mem_map_of_mem hp)) (by show mhash P w p.2 = _; rw [e])
    exact of_decide_eq_false z ⟨p, hp, rfl, e⟩
  unfold setAddHashed
  refine wpAny_holding ?_
  rw [show (100000 : Nat) = 99999 + 1 from rfl, setAddHashedIn_succ]
  refine wpAny_bind (wpAny_setState_of ho hd H.fits ?_)
  dsimp only
  refine wp_if_neg (by simp [byScan, Value.scannable]) ?_
  try refine wpAny_bind (wpAny_pure ?_)
  refine wpAny_bind ?_
  unfold setSearch
  refine seek (same := fun v => decide (∃ p ∈ L, v = Value.ref p.1 ∧ p.2 = k)) H (fun e he eh Q' q' => ?_) (fun e he => ?_) (fun ys Q' hy q' => ?_) low out ins (fun e he eh yes => ?_) (fun no => ?_) 100000 0 none rfl (Nat.zero_le _) (by omega) (fun c hc => absurd hc (Nat.not_lt_zero c))
  · obtain ⟨p, hp, rfl⟩ := rows e he
    refine wpAny_eqBool_tuple hu (R.here p hp) hx ?_
    have z : decide (∃ p' ∈ L, (rowT P w p).2 = Value.ref p'.1 ∧ p'.2 = k) = decide (p.2 = k) := by
      apply decide_eq_decide.mpr
      constructor
      · rintro ⟨p', hp', e1, e2⟩
        have e3 : p.1 = p'.1 := by injection e1
        rw [one p hp p' hp' e3]
        exact e2
      · exact fun e => ⟨p, hp, rfl, e⟩
    rw [z] at q'
    exact q'
  · obtain ⟨p, hp, rfl⟩ := rows e he
    exact ⟨p.1, rfl⟩
  · refine ask_seen hx (fun y my => ?_) q'
    obtain ⟨e, he, rfl⟩ := hy y my
    obtain ⟨p, hp, rfl⟩ := rows e he
    exact ⟨p.2, p.1, rfl, R.here p hp⟩
  · obtain ⟨p, hp, e1, e2⟩ := of_decide_eq_true yes
    refine wpAny_pure (q false s.heap (Heap.SameBut.refl a s.heap) ?_)
    unfold oneMore
    rw [if_pos (List.mem_map.mpr ⟨p, hp, e2⟩)]
    exact R
  · have new := none_in no
    obtain ⟨pl, t', e1, T', em, eled, sz', pm', ef⟩ := tab_in H.tab (mhash P w k) (.ref x) out ins
    have ord : w.params.followText "set-order" = true ∨ t'.led = true := H.order.imp id fun z => eled.trans z
    have sp : es.size * 5 < t'.mask * 3 := by rw [em]; exact H.space
    have few' : (SetTable.insertAt es pl (mhash P w k, .ref x)).size < 64 := by rw [sz', sz]; exact room
    have done : ∀ h' es2 ep2 t2, Heap.SameBut a s.heap h' → Held w h' a es2 ep2 t2 → es2.toList.Perm (SetTable.insertAt es pl (mhash P w k, .ref x)).toList → Q true { s with heap := h' } := fun h' es2 ep2 t2 sb H2 p2 => by
      refine q true h' sb ?_
      unfold oneMore
      rw [if_neg new]
      refine ⟨⟨es2, ep2, t2, H2, ?_⟩, ?_, fun p hp => ?_⟩
      · rw [List.map_cons]
        exact (p2.trans pm').trans (pm.cons _)
      · rw [List.map_cons]
        exact List.nodup_cons.mpr ⟨new, R.once⟩
      · rcases List.mem_cons.mp hp with rfl | hp
        · exact tat_but hx ho hd sb
        · exact tat_but (R.here p hp) ho hd sb
    dsimp only
    refine wpAny_bind (wpAny_setState_of ho hd H.fits ?_)
    dsimp only
    rw [e1]
    dsimp only
    have rest : ∀ t2 : SetTable, TabOk t2 (hashes (SetTable.insertAt es pl (mhash P w k, .ref x))) → (w.params.followText "set-order" = true ∨ t2.led = true) → es.size * 5 < t2.mask * 3 →
        wpAny (model P w) A (do
          storeSet a (SetTable.insertAt es pl (mhash P w k, .ref x)) t2
          if (!false && t2.tooFull) = true then do
            setRelay a (SetTable.grown (es.size + 1))
            pure true
          else pure true) Q E s := fun t2 T2 ord2 sp2 => by
      refine wpAny_bind (wpAny_storeSet_of ho hd ?_ (sizes few'))
      have sb1 := Heap.SameBut.update s.heap a (Obj.putSet (SetTable.insertAt es pl (mhash P w k, .ref x)) t2)
      have o1 := Heap.get?_update_self (Obj.putSet (SetTable.insertAt es pl (mhash P w k, .ref x)) t2) ho (by rw [putSet_of _ t2 hd] <;> rfl)
      rw [putSet_of _ t2 hd] at o1
      rcases Bool.eq_false_or_eq_true t2.tooFull with full | nf
      · rw [full]
        refine wp_if_pos rfl (wpAny_bind ?_)
        rw [← sz']
        refine relay_end (n := es.size) o1 ex rfl T2 ord2 sp2 sz' few' full fun h' es2 ep2 t3 sb H2 p2 => ?_
        exact wpAny_pure (done h' es2 ep2 t3 (sb1.trans sb) H2 p2)
      · rw [nf]
        refine wp_if_neg (by decide) (wpAny_pure (done _ _ _ t2 sb1 (put_rows ho ex hd T2 ord2 ?_ few') (List.Perm.refl _)))
        have e := T2.sz
        rw [len_hashes] at e
        have big := nf
        simp only [SetTable.tooFull, SetTable.fill, T2.dm, e, decide_eq_false_iff_not] at big
        simp at big
        omega
    by_cases plain : t'.plain = true
    · refine wp_if_pos plain (wpAny_bind (ask_hash hx fun y => ?_))
      cases y with
      | true => exact rest t' T' ord sp
      | false => exact rest { t' with plain := false } (dull T') ord sp
    · exact wp_if_neg plain (wpAny_bind (wpAny_pure (rest t' T' ord sp)))
end
end MX
end
section
/-! set(xs): the members come one by one. -/
namespace MX
open PySem PySem.Spec PyProof.Rows L2

/-- a set that was just made -/
abbrev newbie (w : World) : Obj := { cls := .type "set", dict := none, data := .set #[] 0 (.fresh 0 0 (!w.params.followText "set-order")) }
theorem held_new {w : World} {h : Heap} {a : Addr} (ho : h.get? a = some (newbie w)) : Held w h a #[] 0 (.fresh 0 0 (!w.params.followText "set-order")) := by
  refine ⟨⟨_, ho, ⟨rfl, rfl, rfl⟩, rfl⟩, ⟨List.Pairwise.nil, rfl, rfl, .inl rfl, fun x hx => ?_, fun i k j hi _ => ?_⟩, ?_, ?_, ?_⟩
  · simp [SetTable.fresh] at hx
  · simp [hashes] at hi
  · cases e : w.params.followText "set-order" with
    | true => exact .inl rfl
    | false => exact .inr rfl
  · show 0 * 5 < 7 * 3
    decide
  · show 0 < 64
    decide

section
variable {P : Program} {w : World} {A : Around} {E : Value → Shared → Prop} {s : Shared}

/-- the loop that fills a set; J tells what is known when so many have come -/
theorem fill {I S : Addr} {fp wr : List Addr} {G : Array GenState → Array GenState → Prop} {n : Nat} {Pv : Nat → Value → Prop} {St : Nat → Shared → Prop} {R : Result → Shared → Prop}
    (W : WalksS P w A.in1 I fp wr G n Pv St) (out : S ∉ fp) (J : Nat → Heap → Prop)
    (calm : ∀ i h h', J i h → (∀ b o, b ∉ wr → h.get? b = some o → h'.get? b = some o) → J i h')
    (put : ∀ i v (s1 : Shared) (E' : Value → Shared → Prop) (Q' : Bool → Shared → Prop), i < n → Pv i v → J i s1.heap →
      (∀ b h' tk, s1.toks ≤ tk → Heap.SameBut S s1.heap h' → J (i + 1) h' → Q' b { s1 with heap := h', toks := tk }) → wpAny (model P w) A.in1 (setAdd S v) Q' E' s1) :
    ∀ (k i : Nat) (s : Shared), k + i = n → St i s → J i s.heap → (∀ s', Moved (S :: wr) G s s' → J n s'.heap → R (.ok (.ret .none)) s') →
      codeAny (model P w) A (.builtin "set.update.loop" ⟨[.ref S, .ref I], []⟩) R s := by
  have wider : ∀ b ∈ wr, b ∈ S :: wr := fun b hb => List.mem_cons_of_mem S hb
  intro k
  induction k with
  | zero =>
    intro i s e st j fin
    obtain rfl : i = n := by omega
    refine codeAny_builtin F.entry_set_update_loop ?_
    rw [Around.under_plainId F.plain_set_update_loop]
    unfold Builtin.«set.update.loop»
    exact wpAny_bind (W.done s _ _ st fun s' m => wpAny_pure (fin s' (m.mono wider) (calm i _ _ j m.heap)))
  | succ k next =>
    intro i s e st j fin
    have lt : i < n := by omega
    refine codeAny_builtin F.entry_set_update_loop ?_
    rw [Around.under_plainId F.plain_set_update_loop]
    unfold Builtin.«set.update.loop»
    refine wpAny_bind (W.item i s _ _ lt st fun v s1 pv st1 m => ?_)
    refine wpAny_bind (wpAny_holding (put i v s1 _ _ lt pv (calm i _ _ j m.heap) fun b h' tk le sb j1 => ?_))
    have st2 : St (i + 1) { s1 with heap := h', toks := tk } := W.frame (i + 1) s1 h' tk st1 le fun c hc o ho => (sb.2 c fun z => out (z ▸ hc)).trans ho
    refine wpAny_pure ⟨plainId_quiet F.plain_set_update_loop _, next (i + 1) _ (by omega) st2 j1 fun s' m' jn => fin s' ?_ jn⟩
    refine Moved.trans W.gtrans ((m.mono wider).then_heap le fun c o hc ho => ?_) m'
    exact (sb.2 c fun z => hc (z ▸ List.mem_cons_self)).trans ho

/-- a call of set with one argument: the new set's own filling -/
theorem set_call {x : Value} {Q : Value → Shared → Prop}
    (body : ∀ A' : Around, (A.handled = none → A'.handled = none) → A'.units ≤ A.units + 3 → wpAny (model P w) A' (Builtin.«set.__init__» ⟨[.ref s.heap.objs.size, x], []⟩)
      (fun r s2 => r = .done (.ret .none) ∧ Q (.ref s.heap.objs.size) s2) E { s with heap := s.heap.push (newbie w) }) :
    wpAny (model P w) A (call (.type "set") [x]) Q E s := by
  have T := F.called_set
  obtain ⟨top, below, e0⟩ := T.mro
  have e1 := T.made
  have e2 := T.sub
  have e3 := T.notType
  have e4 := T.canCreate
  have e5 := F.typeCall_set_1 x
  refine wpAny_call (codeAny_of_tree ?_)
  show wpAny _ _ (callAny (Value.type "set") ⟨[x], []⟩) _ _ _
  refine wpAny_pure (And.intro (Code.quiet_builtin _ (by decide +kernel)) (codeAny_builtin F.entry_type_call ?_))
  rw [Around.under_plain (weight_type_call_type "set" [x] []) rfl]
  repeat (any_goals (first | assumption | wp_step))
  refine codeAny_mono (code_set_led1 x (E := E) (Q₁ := fun v s1 => v = .ref s.heap.objs.size ∧ s1 = { s with heap := s.heap.push (newbie w) }) ⟨rfl, rfl⟩) fun r s1 hr => ?_
  match r, hr with
  | .error _, hr => exact hr
  | .ok (.ret v), hr =>
    obtain ⟨rfl, rfl⟩ := hr
    have here : Shared.TypeIs { s with heap := s.heap.push (newbie w) } (.ref s.heap.objs.size) "set" := ⟨newbie w, Heap.get?_push_size _ rfl, rfl⟩
    have e6 := T.init.lookup
    have e7 := T.init.bind (.ref s.heap.objs.size)
    repeat (any_goals (first | assumption | wp_step))
    refine codeAny_mono (codeAny_call_builtin (R := wants (fun v s2 => v = .none ∧ Q (.ref s.heap.objs.size) s2) E) T.init.plain F.entry_set_init (check_set_init_1 here ?_)) fun r2 s2 hr2 => ?_
    · refine wpAny_mono (body _ (fun h => by simp [h]) ?_) (fun fin s3 ⟨ef, q⟩ => ?_) fun _ _ z => z
      · simp only [Around.in1_units]
        omega
      · subst ef
        exact ⟨rfl, q⟩
    · match r2, hr2 with
      | .error _, hr2 => exact hr2
      | .ok (.ret _), hr2 =>
        obtain ⟨rfl, q⟩ := hr2
        repeat (any_goals (first | assumption | wp_step))

set_option maxHeartbeats 2000000 in
/-- set(xs) of a list or tuple -/
theorem set_seq {l : Addr} {items : Array Value} {Q : Value → Shared → Prop} (hl : s.heap.IsList l items ∨ s.heap.IsTuple l items) (hh : A.handled = none) (J : Nat → Heap → Prop)
    (start : ∀ h', (∀ b o, s.heap.get? b = some o → h'.get? b = some o) → h'.get? s.heap.objs.size = some (newbie w) → J 0 h')
    (calm : ∀ i h h', J i h → (∀ b o, b ≤ s.heap.objs.size → h.get? b = some o → h'.get? b = some o) → J i h')
    (put : ∀ (A' : Around) i v (s1 : Shared) (E' : Value → Shared → Prop) (Q' : Bool → Shared → Prop), A'.units ≤ A.units + 4 → items[i]? = some v → J i s1.heap → (∀ b o, s.heap.get? b = some o → s1.heap.get? b = some o) →
      (∀ b h' tk, s1.toks ≤ tk → Heap.SameBut s.heap.objs.size s1.heap h' → J (i + 1) h' → Q' b { s1 with heap := h', toks := tk }) → wpAny (model P w) A' (setAdd s.heap.objs.size v) Q' E' s1)
    (q : ∀ h' tk, J items.size h' → (∀ b o, s.heap.get? b = some o → h'.get? b = some o) → Q (.ref s.heap.objs.size) { s with heap := h', toks := tk }) :
    wpAny (model P w) A (call (.type "set") [.ref l]) Q E s := by
  refine set_call fun A' hA units => ?_
  have quiet : A'.handled = none := hA hh
  have quiet1 : A'.in1.handled = none := quiet
  have older : ∀ b o, s.heap.get? b = some o → (s.heap.push (newbie w)).get? b = some o := fun b o e => Heap.get?_push_of_some _ e
  have made : (s.heap.push (newbie w)).get? s.heap.objs.size = some (newbie w) := Heap.get?_push_size _ rfl
  have big : (s.heap.push (newbie w)).objs.size = s.heap.objs.size + 1 := Heap.size_push ..
  have none_above : s.heap.get? s.heap.objs.size = none := by
    cases e : s.heap.get? s.heap.objs.size with
    | none => rfl
    | some o => exact absurd (Heap.lt_size e) (Nat.lt_irrefl _)
  have loop : ∀ {I : Addr} {fp : List Addr} {Pv : Nat → Value → Prop} {St : Nat → Heap → Prop} (s2 : Shared), I = s.heap.objs.size + 1 → Walks P w A'.in1 I fp [I] items.size Pv St → s.heap.objs.size ∉ fp → (∀ i v, Pv i v → items[i]? = some v) →
      (∀ b o, s.heap.get? b = some o → s2.heap.get? b = some o) → s2.heap.get? s.heap.objs.size = some (newbie w) → s2.gens = s.gens → s2.drawn = s.drawn → s2.os = s.os → St 0 s2.heap →
      codeAny (model P w) A' (.builtin "set.update.loop" ⟨[.ref s.heap.objs.size, .ref I], []⟩) (fun r s3 => r = .ok (.ret .none) ∧ Q (.ref s.heap.objs.size) s3) s2 := by
    intro I fp Pv St s2 eI W hfp hPv old2 made2 g2 d2 o2 st
    refine fill W.toS hfp (fun i h => J i h ∧ ∀ b o, s.heap.get? b = some o → h.get? b = some o) (fun i h h' ⟨j, old⟩ k => ⟨calm i h h' j fun b o le e => k b o ?_ e, fun b o e => k b o ?_ (old b o e)⟩) ?_ items.size 0 s2 (by omega) st ⟨start _ old2 made2, old2⟩ ?_
    · rw [List.mem_singleton, eI]
      exact Nat.ne_of_lt (Nat.lt_succ_of_le le)
    · rw [List.mem_singleton, eI]
      exact Nat.ne_of_lt (Nat.lt_succ_of_lt (Heap.lt_size e))
    · intro i v s1 E' Q' lt pv ⟨j, old⟩ k
      refine put A'.in1 i v s1 E' Q' (by simp only [Around.in1_units]; omega) (hPv i v pv) j old fun b h' tk le sb j1 => k b h' tk le sb ⟨j1, fun c o e => ?_⟩
      exact (sb.2 c fun z => by rw [z, none_above] at e; cases e).trans (old c o e)
    · intro s' m ⟨j, old⟩
      refine ⟨rfl, ?_⟩
      obtain ⟨h', g', d', tk', os'⟩ := s'
      obtain rfl : g' = s.gens := (Eq.trans m.gens g2)
      obtain rfl : d' = s.drawn := m.drawn.trans d2
      obtain rfl : os' = s.os := m.os.trans o2
      exact q h' tk' j old
  have other : s.heap.objs.size ∉ [(s.heap.push (newbie w)).objs.size, l] ∧ l ≠ (s.heap.push (newbie w)).objs.size := by
    have lt : l < s.heap.objs.size := by
      rcases hl with ⟨o, ho, _⟩ | ⟨o, ho, _⟩ <;> exact Heap.lt_size ho
    rw [big]
    refine ⟨fun z => ?_, fun z => ?_⟩
    · rcases List.mem_cons.mp z with z | z
      · exact absurd z (Nat.ne_of_lt (Nat.lt_succ_self _))
      · exact absurd (List.mem_singleton.mp z) (Nat.ne_of_gt lt)
    · exact absurd z (Nat.ne_of_lt (Nat.lt_succ_of_lt lt))
  rcases hl with hl | hl
  · obtain ⟨⟨c, dict, data, slots⟩, ho, hc, n, hd⟩ := hl
    simp only at hc hd
    subst hc hd
    have ho1 : (s.heap.push (newbie w)).get? l = some { cls := .type "list", dict := dict, data := .seq items n, slots := slots } := older l _ ho
    have hl1 : (s.heap.push (newbie w)).IsList l items := ⟨_, ho1, rfl, n, rfl⟩
    have f1 := F.sub_list_set
    have f2 := F.sub_list_frozenset
    have f3 : (Value.type "list" == Value.type "dict") = false := by decide
    unfold Builtin.«set.__init__» noKeywords Builtin.Frozenset.updateFrom
    generalize hit : pyIter = iter
    wp_walk
    subst hit
    refine wpAny_pyIter_list hl1 (wpAny_bind (wpAny_runValue ?_))
    refine codeAny_mono (loop _ big (Walks.list quiet1 _ l other.2 items) other.1 (fun i v e => e) (fun b o e => Heap.get?_push_of_some _ (older b o e)) (Heap.get?_push_of_some _ made) rfl rfl rfl ⟨⟨_, Heap.get?_push_size _ rfl, rfl, rfl⟩, hl1.push _⟩) fun r s3 ⟨er, q3⟩ => ?_
    subst er
    exact wpAny_pure (wpAny_pure ⟨rfl, q3⟩)
  · obtain ⟨⟨c, dict, data, slots⟩, ho, hc, n, hd⟩ := hl
    simp only at hc hd
    subst hc hd
    have ho1 : (s.heap.push (newbie w)).get? l = some { cls := .type "tuple", dict := dict, data := .seq items n, slots := slots } := older l _ ho
    have hl1 : (s.heap.push (newbie w)).IsTuple l items := ⟨_, ho1, rfl, n, rfl⟩
    have f1 := F.sub_tuple_set
    have f2 := F.sub_tuple_frozenset
    have f3 : (Value.type "tuple" == Value.type "dict") = false := by decide
    unfold Builtin.«set.__init__» noKeywords Builtin.Frozenset.updateFrom
    generalize hit : pyIter = iter
    wp_walk
    subst hit
    refine wpAny_pyIter_tuple hl1 (wpAny_bind (wpAny_runValue ?_))
    refine codeAny_mono (loop _ big (Walks.tuple quiet1 _ l other.2 items) other.1 (fun i v e => e) (fun b o e => Heap.get?_push_of_some _ (older b o e)) (Heap.get?_push_of_some _ made) rfl rfl rfl ⟨⟨_, Heap.get?_push_size _ rfl, rfl, rfl⟩, hl1.push _⟩) fun r s3 ⟨er, q3⟩ => ?_
    subst er
    exact wpAny_pure (wpAny_pure ⟨rfl, q3⟩)
end
end MX
end
section
/-! The orders of keys and of tuples of keys; lists that rise. -/
namespace MX
open PySem PySem.Spec PyProof.Rows L2 PySem.W

def ofKey : Key → PyData
  | .inl i => .int i
  | .inr x => .str x
def ofTup (k : MT) : PyData := .tuple (k.map ofKey)
def tks (k : MT) : List (Int ⊕ List Nat) := keyToks (ofTup k)
/-- the order of numbers, and of words -/
def kl (a b : Key) : Bool := dataLt (ofKey a) (ofKey b)
/-- the order of tuples -/
def klt (a b : MT) : Bool := lexLt itemOrd (tks a) (tks b)
abbrev Up (l : List Key) : Prop := l.Pairwise fun a b => kl a b = true
abbrev Rise (l : List MT) : Prop := l.Pairwise fun a b => klt a b = true

theorem depth_ofKey : ∀ l : MT, PyData.depthAll (l.map ofKey) = 0
  | [] => rfl
  | k :: l => by
    rw [List.map_cons, PyData.depthAll, depth_ofKey l]
    cases k <;> rfl
theorem kl_irrefl (a : Key) : kl a a = false := lex_irrefl (O := itemOrd) _
theorem klt_irrefl (a : MT) : klt a a = false := lex_irrefl (O := itemOrd) _
theorem kl_int (a b : Int) : kl (.inl a) (.inl b) = decide (a < b) := dataLt_int a b

/-- two lists that rise by an order and have the same members are one -/
theorem same_rising {α : Type} {lt : α → α → Bool} (irr : ∀ a, lt a a = false) (tr : ∀ a b c, lt a b = true → lt b c = true → lt a c = true) :
    ∀ {l m : List α}, l.Pairwise (fun a b => lt a b = true) → m.Pairwise (fun a b => lt a b = true) → (∀ x, x ∈ l ↔ x ∈ m) → l = m
  | [], [], _, _, _ => rfl
  | [], y :: m, _, _, h => absurd ((h y).mpr List.mem_cons_self) (by simp)
  | x :: l, [], _, _, h => absurd ((h x).mp List.mem_cons_self) (by simp)
  | x :: l, y :: m, p, q, h => by
    obtain ⟨p1, p2⟩ := List.pairwise_cons.mp p
    obtain ⟨q1, q2⟩ := List.pairwise_cons.mp q
    have never : ∀ {a b}, lt a b = true → lt b a = true → False := fun {a b} u v => by
      have z := tr a b a u v
      rw [irr] at z
      cases z
    have e : x = y := by
      rcases List.mem_cons.mp ((h x).mp List.mem_cons_self) with e | hx
      · exact e
      · rcases List.mem_cons.mp ((h y).mpr List.mem_cons_self) with e | hy
        · exact e.symm
        · exact absurd (p1 y hy) fun u => never u (q1 x hx)
    subst e
    have out1 : x ∉ l := fun z => by
      have u := p1 x z
      rw [irr] at u
      cases u
    have out2 : x ∉ m := fun z => by
      have u := q1 x z
      rw [irr] at u
      cases u
    rw [same_rising irr tr p2 q2 fun z => ?_]
    constructor
    · intro hz
      rcases List.mem_cons.mp ((h z).mp (List.mem_cons_of_mem _ hz)) with e | k
      · exact absurd (e ▸ hz) out1
      · exact k
    · intro hz
      rcases List.mem_cons.mp ((h z).mpr (List.mem_cons_of_mem _ hz)) with e | k
      · exact absurd (e ▸ hz) out2
      · exact k
theorem up_one {l m : List Key} (hl : Up l) (hm : Up m) (h : ∀ k, k ∈ l ↔ k ∈ m) : l = m := same_rising kl_irrefl (fun a b c u v => lex_trans (O := itemOrd) _ _ _ u v) hl hm h
theorem rise_one {l m : List MT} (hl : Rise l) (hm : Rise m) (h : ∀ k, k ∈ l ↔ k ∈ m) : l = m := same_rising klt_irrefl (fun a b c u v => lex_trans (O := itemOrd) _ _ _ u v) hl hm h

/-- what is not less either way, and can be compared, is the same -/
theorem key_same {a b : Key} (al : alike (ofKey a) (ofKey b) = true) (h1 : kl a b = false) (h2 : kl b a = false) : a = b := by
  cases a with
  | inl i =>
    cases b with
    | inl j =>
      rw [kl_int] at h1 h2
      have := of_decide_eq_false h1
      have := of_decide_eq_false h2
      rw [show i = j by omega]
    | inr y => exact absurd al (by simp [ofKey, alike])
  | inr x =>
    cases b with
    | inl j => exact absurd al (by simp [ofKey, alike])
    | inr y =>
      have e1 : decide (x.cps.toList < y.cps.toList) = false := (dataLt_str x y).symm.trans h1
      have e2 : decide (y.cps.toList < x.cps.toList) = false := (dataLt_str y x).symm.trans h2
      have e3 := List.le_antisymm (List.not_lt.mp (of_decide_eq_false e2)) (List.not_lt.mp (of_decide_eq_false e1))
      obtain ⟨xs⟩ := x
      obtain ⟨ys⟩ := y
      rw [show xs = ys from Array.toList_inj.mp e3]
theorem alike_eqv {a b : Key} (al : alike (ofKey a) (ofKey b) = true) : PyData.eqv (ofKey a) (ofKey b) = decide (a = b) := by
  cases a with
  | inl i =>
    cases b with
    | inl j => rw [key_ll]; rfl
    | inr y => exact absurd al (by simp [ofKey, alike])
  | inr x =>
    cases b with
    | inl j => exact absurd al (by simp [ofKey, alike])
    | inr y =>
      rw [key_rr]
      show (x == y) = decide (x = y)
      rcases Classical.em (x = y) with c | c
      · subst c; simp
      · rw [decide_eq_false c]; exact beq_eq_false_iff_ne.mpr c
theorem rows_same : ∀ {a b : MT}, a.length = b.length → alikeAll (a.map ofKey) (b.map ofKey) = true → lexLt itemOrd (keyToksAll (a.map ofKey)) (keyToksAll (b.map ofKey)) = false →
    lexLt itemOrd (keyToksAll (b.map ofKey)) (keyToksAll (a.map ofKey)) = false → a = b
  | [], [], _, _, _, _ => rfl
  | [], _ :: _, e, _, _, _ => by cases e
  | _ :: _, [], e, _, _, _ => by cases e
  | x :: a, y :: b, e, al, h1, h2 => by
    rw [List.map_cons, List.map_cons, alikeAll, Bool.and_eq_true] at al
    obtain ⟨al1, al2⟩ := al
    have al1' : alike (ofKey y) (ofKey x) = true := by cases x <;> cases y <;> simp_all [ofKey, alike]
    rw [List.map_cons, List.map_cons, dataLt_cons al1] at h1
    rw [List.map_cons, List.map_cons, dataLt_cons al1'] at h2
    rw [alike_eqv al1] at h1
    rw [alike_eqv al1'] at h2
    rcases Classical.em (x = y) with c | c
    · subst c
      rw [if_pos (decide_eq_true rfl)] at h1 h2
      rw [rows_same (by simpa using e) al2 h1 h2]
    · rw [if_neg (by simp [c])] at h1
      rw [if_neg (by simp [Ne.symm c])] at h2
      exact absurd (key_same al1 h1 h2) c
end MX
end
section
/-! sorted of a set. -/
namespace MX
open PySem PySem.Spec PyProof.Rows L2 PySem.W

theorem each_perm {β : Type} {R : Value → β → Prop} {us vs : List Value} (p : us.Perm vs) : ∀ {bs : List β}, EachIs R vs bs → ∃ bs', EachIs R us bs' ∧ bs'.Perm bs := by
  induction p with
  | nil => intro bs e; exact ⟨bs, e, List.Perm.refl _⟩
  | cons x _ ih =>
    intro bs e
    cases e with
    | cons r t =>
      obtain ⟨cs, e1, p1⟩ := ih t
      exact ⟨_, .cons r e1, p1.cons _⟩
  | swap x y l =>
    intro bs e
    cases e with
    | cons r1 t =>
      cases t with
      | cons r2 t => exact ⟨_, .cons r2 (.cons r1 t), List.Perm.swap ..⟩
  | trans _ _ ih1 ih2 =>
    intro bs e
    obtain ⟨cs, e1, p1⟩ := ih2 e
    obtain ⟨ds, e2, p2⟩ := ih1 e1
    exact ⟨ds, e2, p2.trans p1⟩

section
variable {P : Program} {w : World} {A : Around} {E : Value → Shared → Prop} {s : Shared} {a : Addr} {es : Array (Int × Value)} {ep : Nat} {t : SetTable}

theorem sort_held {β : Type} {enc : β → PyData} {R : Value → β → Prop} {bs : List β} {Q : Value → Shared → Prop} (at_ : SetAt s.heap a es ep t) (fits : t.fits es.size = true) (low : es.size < scanBound) (ris : Ris t.place.toList) (ord : w.params.followText "set-order" = true ∨ t.led = true) (hh : A.handled = none) (each : EachIs R (es.toList.map (·.2)) bs)
    (reads : ∀ v b (h' : Heap), (∀ c o, s.heap.get? c = some o → h'.get? c = some o) → R v b → Reads h' v (enc b) []) (al : ∀ b ∈ bs, ∀ b' ∈ bs, alike (enc b) (enc b') = true) (hk : ∀ ds : List β, ds.Perm bs → Sortable (ds.map enc))
    (hu : ∀ b ∈ bs, A.units + 3 + (enc b).depth < cLine)
    (q : ∀ s' p (out : Array Value) (c : Nat) (ds : List β), (∀ b o, s.heap.get? b = some o → s'.heap.get? b = some o) → s'.gens = s.gens → s'.os = s.os → s.heap.objs.size ≤ p → s'.heap.get? p = some (seqObj "list" out c) →
      EachIs R out.toList ds → ds.Perm bs → ds.Pairwise (fun b b' => dataLt (enc b') (enc b) = false) → Q (.ref p) s') :
    wpAny (model P w) A (call (.builtin "sorted") [.ref a]) Q E s := by
  refine Calls.call_function_entry kind_sorted plain_sorted entry_sorted (args_sorted1 (.ref a)) ?_
  unfold Builtin.«sorted»
  refine wpAny_bind (m := checkCount "sorted" 1 1 1) (wpAny_pure ?_)
  refine wpAny_bind (collect_set (A := A.in1) hh at_ fits low ris ord fun s1 vs old1 big1 g1 o1 pm => ?_)
  obtain ⟨cs, ecs, pcs⟩ := each_perm pm each
  have few : vs.length ≤ sizeLine := by
    rw [pm.length_eq, List.length_map, Array.length_toList]
    exact fits_of_scanBound low
  have fewc : cs.length ≤ sizeLine := by rw [← ecs.length]; exact few
  refine wpAny_bind (wpAny_newList ?_ few)
  have made : (s1.heap.push (seqObj "list" vs.toArray 0)).get? s1.heap.objs.size = some (seqObj "list" vs.toArray 0) := Heap.get?_push_size _ rfl
  have old2 : ∀ c u, s.heap.get? c = some u → (s1.heap.push (seqObj "list" vs.toArray 0)).get? c = some u := fun c u e => Heap.get?_push_of_some _ (old1 c u e)
  have readable : EachIs (fun v b => ∃ as, Reads (s1.heap.push (seqObj "list" vs.toArray 0)) v (enc b) as ∧ s1.heap.objs.size ∉ as) vs cs := ecs.mono fun v b r => ⟨[], reads v b _ old2 r, by simp⟩
  refine wpAny_bind (wpAny_holding ?_)
  refine list_sort_data (s := { s1 with heap := s1.heap.push (seqObj "list" vs.toArray 0) }) (A := A.in1) made ecs readable ?_ (hk cs pcs) fewc (fun b hb => ?_) fun out len eout => ?_
  · intro d hd d' hd'
    obtain ⟨b, hb, rfl⟩ := List.mem_map.mp hd
    obtain ⟨b', hb', rfl⟩ := List.mem_map.mp hd'
    exact al b (pcs.mem_iff.mp hb) b' (pcs.mem_iff.mp hb')
  · have := hu b (pcs.mem_iff.mp hb)
    simp only [Around.in1_units]
    omega
  · obtain ⟨c, hc⟩ := sortedHeap_at (vs := vs) (out := List.toArray out) made
    refine wpAny_pure ⟨_, rfl, q _ s1.heap.objs.size (List.toArray out) c (cs.mergeSort (dataLe false enc)) (fun b u e => ?_) g1 o1 big1 hc eout ((List.mergeSort_perm _ _).trans pcs) ?_⟩
    · have e1 := old1 b u e
      have lt := Heap.lt_size e1
      show (sortedHeap (s1.heap.push (seqObj "list" vs.toArray 0)) s1.heap.objs.size vs (List.toArray out)).get? b = some u
      rw [sortedHeap_old (Nat.ne_of_lt lt) (by rw [size_push']; exact Nat.lt_succ_of_lt lt)]
      exact Heap.get?_push_of_some _ e1
    · have z := sort_pairwise (le := dataLe false enc) (sortLe_total (listOrd itemOrd) false fun b => keyToks (enc b)) cs
      refine z.imp fun {b b'} e => ?_
      have e' : (!dataLt (enc b') (enc b)) = true := e
      simpa using e'
end
end MX
end
section
/-! set(..) and sorted(..) read: tuples of numbers and words. -/
namespace MX
open PySem PySem.Spec PyProof.Rows L2 PySem.W

/-- the set at a, but for what stands elsewhere -/
structure SetM0 (P : Program) (w : World) (h : Heap) (a : Addr) (L : List (Addr × MT)) : Prop where
  held : ∃ es ep t, Held w h a es ep t ∧ es.toList.Perm (L.map (rowT P w))
  once : (L.map (·.2)).Nodup
def SetMO (P : Program) (w : World) (a : Addr) (L : List (Addr × MT)) : HO := .ext fun h => SetM0 P w h a L
theorem ok_setMO {P : Program} {w : World} {H : Hp} {h : Heap} {a : Addr} {L : List (Addr × MT)} (R : SetM0 P w h a L) : ObjOk P w H h a (SetMO P w a L) := by
  obtain ⟨⟨es, ep, t, K, pm⟩, nd⟩ := R
  refine ⟨⟨⟨es, ep, t, K, pm⟩, nd⟩, ?_, fun h1 h2 p k => ?_⟩
  · obtain ⟨o, ho, _⟩ := K.obj
    exact ⟨o, ho⟩
  · obtain ⟨⟨es, ep, t, K, pm⟩, nd⟩ := p
    exact ⟨⟨es, ep, t, K.stays k, pm⟩, nd⟩

/-- a tuple's items as the model has them -/
theorem items_are {P : Program} {w : World} : ∀ {k : MT} {us : List Value}, Vals (k.map kV) us → ItemsAre (mixKind P w) k us
  | [], _, .nil => .nil
  | _ :: _, _, .cons r t => .cons (kV_is r) (items_are t)
theorem refs_are : ∀ {ks : List (Addr × MT)} {us : List Value}, Vals (ks.map fun p => V.ref p.1) us → us = ks.map fun p => Value.ref p.1
  | [], _, .nil => rfl
  | p :: ks, _, .cons r t => by
    cases r
    rw [refs_are t] <;> rfl
theorem vals_refs : ∀ {ks : List (Addr × MT)} {us : List Value}, EachIs (fun v (p : Addr × MT) => v = .ref p.1) us ks → Vals (ks.map fun p => V.ref p.1) us
  | [], _, .nil => .nil
  | p :: ks, _, .cons e t => by
    subst e
    exact .cons rfl (vals_refs t)
theorem each_refs : ∀ ks : List (Addr × MT), EachIs (fun v (p : Addr × MT) => v = .ref p.1) (ks.map fun p => Value.ref p.1) ks
  | [] => .nil
  | _ :: ks => .cons rfl (each_refs ks)
theorem reads_items {P : Program} {w : World} {h : Heap} {k : MT} {us : List Value} (x : ItemsAre (mixKind P w) k us) : ReadsAll h us (k.map ofKey) [] := by
  induction x with
  | nil => exact .nil
  | @cons k0 v ks vs h1 _ ih =>
    rcases keyIs_shape h1 with ⟨i, t, rfl, rfl⟩ | ⟨y, t, rfl, rfl⟩
    · exact .cons (as := []) (.int i t) ih
    · exact .cons (as := []) (.str y t) ih
theorem reads_tup {P : Program} {w : World} {h : Heap} {k : MT} {b : Addr} (x : TAt P w h k b) : Reads h (.ref b) (ofTup k) [] := by
  obtain ⟨o, items, n, ho, hc, hd, hi⟩ := x
  exact .tuple ho hc hd (reads_items hi)

/-- which items are numbers -/
def shape (k : MT) : List Bool := k.map fun x => match x with | .inl _ => true | .inr _ => false
theorem alike_shape : ∀ {a b : MT}, shape a = shape b → alikeAll (a.map ofKey) (b.map ofKey) = true
  | [], [], _ => by simp [alikeAll]
  | [], _ :: _, e => by cases e
  | _ :: _, [], e => by cases e
  | x :: a, y :: b, e => by
    unfold shape at e
    rw [List.map_cons, List.map_cons] at e
    obtain ⟨e1, e2⟩ := List.cons.inj e
    rw [List.map_cons, List.map_cons, alikeAll, alike_shape (a := a) (b := b) e2]
    cases x with
    | inl i =>
      cases y with
      | inl j => rfl
      | inr t => cases e1
    | inr t =>
      cases y with
      | inl j => cases e1
      | inr u => rfl
theorem len_shape {a b : MT} (e : shape a = shape b) : a.length = b.length := by
  have z := congrArg List.length e
  unfold shape at z
  rw [List.length_map, List.length_map] at z
  exact z
theorem rise_of {L : List (Addr × MT)} {sh : List Bool} (all : ∀ p ∈ L, shape p.2 = sh) (nd : (L.map (·.2)).Nodup) (pw : L.Pairwise fun p q => dataLt (ofTup q.2) (ofTup p.2) = false) : Rise (L.map (·.2)) := by
  refine List.pairwise_map.mpr ?_
  have nd' : L.Pairwise fun p q => p.2 ≠ q.2 := List.pairwise_map.mp nd
  refine (List.Pairwise.and nd' pw).imp_of_mem fun {p q} hp hq ⟨ne, le⟩ => ?_
  cases e : klt p.2 q.2 with
  | true => rfl
  | false =>
    have s : shape p.2 = shape q.2 := (all p hp).trans (all q hq).symm
    have u : lexLt itemOrd (keyToksAll (p.2.map ofKey)) (keyToksAll (q.2.map ofKey)) = false := (dataLt_tuple _ _).symm.trans e
    have v : lexLt itemOrd (keyToksAll (q.2.map ofKey)) (keyToksAll (p.2.map ofKey)) = false := (dataLt_tuple _ _).symm.trans le
    exact absurd (rows_same (len_shape s) (alike_shape s) u v) ne

def rSetM (K : PySem.W.Frag) (P : Program) (w : World) : List V → Hp → VK → Prop := fun xs H Q => ∃ (a : Addr) (ks : List (Addr × MT)), xs = [V.ref a] ∧
  (SqL K H a (ks.map fun p => V.ref p.1) ∨ SqT K H a (ks.map fun p => V.ref p.1)) ∧ (∀ p ∈ ks, SqT K H p.1 (p.2.map kV)) ∧ ks.length < 64 ∧
  ∀ (S : Addr) (L : List (Addr × MT)), H S = none → (∀ p ∈ L, p ∈ ks) → (∀ p ∈ ks, p.2 ∈ L.map (·.2)) → Q (.ref S) (upd H S (SetMO P w S L))
def rSortedM (K : PySem.W.Frag) (P : Program) (w : World) : List V → Hp → VK → Prop := fun xs H Q => ∃ (a : Addr) (L : List (Addr × MT)) (sh : List Bool), xs = [V.ref a] ∧ H a = some (SetMO P w a L) ∧
  (∀ p ∈ L, SqT K H p.1 (p.2.map kV)) ∧ sh ≠ [] ∧ (∀ p ∈ L, shape p.2 = sh) ∧
  ∀ (M : List (Addr × MT)) (q : Addr), M.Perm L → Rise (M.map (·.2)) → H q = none → Q (.ref q) (upd H q (.lst (M.map fun p => V.ref p.1)))

section
variable {X : Cx} {pins : List (Addr × Obj)} {σ : L2.St} {H : Hp} {s : Shared}
theorem tat_of (I : Inv X pins σ H s) {b : Addr} {k : MT} (h : SqT X.K H b (k.map kV)) : TAt X.prog X.w s.heap k b := by
  obtain ⟨its, r, ⟨o, ho, hc, n, hd⟩, _⟩ := I.tuple h
  exact ⟨o, its.toArray, n, ho, hc, hd, by simpa using items_are r⟩

/-- what has come of the first i tuples -/
structure Come (ks : List (Addr × MT)) (i : Nat) (L : List (Addr × MT)) : Prop where
  inn : ∀ p ∈ L, p ∈ ks
  all : ∀ p ∈ ks.take i, p.2 ∈ L.map (·.2)
  low : L.length ≤ i
theorem Come.next {ks L : List (Addr × MT)} {i : Nat} {p : Addr × MT} (c : Come ks i L) (e : ks[i]? = some p) : Come ks (i + 1) (oneMore L p.1 p.2) := by
  have tk : ks.take (i + 1) = ks.take i ++ [p] := by rw [List.take_add_one, e] <;> rfl
  unfold oneMore
  split
  · rename_i old
    refine ⟨c.inn, fun q hq => ?_, Nat.le_succ_of_le c.low⟩
    rw [tk] at hq
    rcases List.mem_append.mp hq with h | h
    · exact c.all q h
    · rw [List.mem_singleton.mp h]; exact old
  · refine ⟨fun q hq => ?_, fun q hq => ?_, Nat.succ_le_succ c.low⟩
    · rcases List.mem_cons.mp hq with rfl | h
      · exact List.mem_of_getElem? e
      · exact c.inn q h
    · rw [tk] at hq
      rw [List.map_cons]
      rcases List.mem_append.mp hq with h | h
      · exact List.mem_cons_of_mem _ (c.all q h)
      · rw [List.mem_singleton.mp h]; exact List.mem_cons_self

theorem cr_setM (hc : X.calm = true) (hu : X.A.units + 64 < cLine) : CallR X (.type "set") (rSetM X.K X.prog X.w) := by
  intro pins s σ H xs us Q I r h
  obtain ⟨a, ks, rfl, ha, hk, few, q⟩ := h
  rw [Vals.ref1 r]
  have seq : ∃ items : Array Value, (s.heap.IsList a items ∨ s.heap.IsTuple a items) ∧ items.toList = ks.map fun p => Value.ref p.1 := by
    rcases ha with ha | ha
    · obtain ⟨its, rv, pl, _⟩ := I.list ha
      exact ⟨its.toArray, .inl pl.isList, by simpa using refs_are rv⟩
    · obtain ⟨its, rv, ht, _⟩ := I.tuple ha
      exact ⟨its.toArray, .inr ht, by simpa using refs_are rv⟩
  obtain ⟨items, at_, its⟩ := seq
  have size : items.size = ks.length := by
    have e := congrArg List.length its
    rw [List.length_map, Array.length_toList] at e
    exact e
  have tup : ∀ p ∈ ks, TAt X.prog X.w s.heap p.2 p.1 := fun p hp => tat_of I (hk p hp)
  have free : H s.heap.objs.size = none := I.hok.fresh (Nat.le_refl _)
  refine set_seq at_ (I.ok.hd hc) (fun i h' => (∀ b o, s.heap.get? b = some o → h'.get? b = some o) ∧ ∃ L, SetM X.prog X.w h' s.heap.objs.size L ∧ Come ks i L) ?_ ?_ ?_ ?_
  · intro h' old made
    exact ⟨old, [], ⟨⟨_, _, _, held_new made, List.Perm.nil⟩, List.nodup_nil, fun p hp => absurd hp (by simp)⟩, ⟨fun p hp => absurd hp (by simp), fun p hp => absurd hp (by simp), Nat.le_refl 0⟩⟩
  · rintro i h1 h2 ⟨old, L, R, c⟩ k
    have old2 : ∀ b o, s.heap.get? b = some o → h2.get? b = some o := fun b o e => k b o (Nat.le_of_lt (Heap.lt_size e)) (old b o e)
    obtain ⟨es, ep, t, Hd, pm⟩ := R.held
    exact ⟨old2, L, ⟨⟨es, ep, t, Hd.stays fun o e => k _ o (Nat.le_refl _) e, pm⟩, R.once, fun p hp => tat_kept (tup p (c.inn p hp)) old2⟩, c⟩
  · rintro A' i v s1 E' Q' le ev ⟨old, L, R, c⟩ _ k
    have e1 : (ks.map fun p => Value.ref p.1)[i]? = some v := by rw [← its, Array.getElem?_toList]; exact ev
    rw [List.getElem?_map] at e1
    obtain ⟨p, hp, rfl⟩ := Option.map_eq_some_iff.mp e1
    have lt : i < ks.length := (List.getElem?_eq_some_iff.mp hp).1
    have hx : TAt X.prog X.w s1.heap p.2 p.1 := tat_kept (tup p (List.mem_of_getElem? hp)) old
    have room : A'.units < cLine := by omega
    unfold setAdd
    refine wpAny_holding (wpAny_bind (wpAny_pyHash_tuple room hx ?_))
    refine add_tup (s := { s1 with toks := s1.toks + (p.2.length + 1) }) R hx room (by have := c.low; omega) fun b h' sb R' => ?_
    refine k b h' _ (Nat.le_add_right _ _) sb ⟨fun c o e => ?_, _, R', c.next hp⟩
    have ne : c ≠ s.heap.objs.size := Nat.ne_of_lt (Heap.lt_size e)
    exact (sb.2 c ne).trans (old c o e)
  · rintro h' tk ⟨_, L, R, c⟩ old
    refine ⟨.ref _, upd H s.heap.objs.size (SetMO X.prog X.w s.heap.objs.size L), I.laid (t' := tk) old (Nat.le_refl _) (ok_setMO ⟨R.held, R.once⟩), rfl, q _ L free c.inn fun p hp => c.all p ?_⟩
    rw [size, List.take_length]
    exact hp

theorem cr_sortedM (hc : X.calm = true) (hu : X.A.units + 64 < cLine) : CallR X (.builtin "sorted") (rSortedM X.K X.prog X.w) := by
  intro pins s σ H xs us Q I r h
  obtain ⟨a, L, sh, rfl, ha, hk, hsh, all, q⟩ := h
  obtain ⟨⟨es, ep, t, Hd, pm⟩, nd⟩ : SetM0 X.prog X.w s.heap a L := (I.hok a _ ha).1
  rw [Vals.ref1 r]
  have at_ : SetAt s.heap a es ep t := by
    obtain ⟨o, ho, ex, hd⟩ := Hd.obj
    exact ⟨o, ho, ex.1, hd⟩
  have tup : ∀ p ∈ L, TAt X.prog X.w s.heap p.2 p.1 := fun p hp => tat_of I (hk p hp)
  have vals : (es.toList.map (·.2)).Perm (L.map fun p => Value.ref p.1) := by
    have z := pm.map (·.2)
    rw [List.map_map] at z
    exact z
  obtain ⟨L', each, pL⟩ := each_perm vals (each_refs L)
  have each2 : EachIs (fun v (p : Addr × MT) => v = .ref p.1 ∧ p ∈ L) (es.toList.map (·.2)) L' := (each_mem each).mono fun v p ⟨e, m⟩ => ⟨e, pL.mem_iff.mp m⟩
  refine sort_held (enc := fun p : Addr × MT => ofTup p.2) (R := fun v (p : Addr × MT) => v = .ref p.1 ∧ p ∈ L) (bs := L') at_ Hd.fits (Nat.lt_trans Hd.few (by decide)) Hd.tab.ris Hd.order (I.ok.hd hc) each2 ?_ ?_ ?_ ?_ ?_
  · rintro v p h' old ⟨rfl, hp⟩
    exact reads_tup (tat_kept (tup p hp) old)
  · intro p hp p' hp'
    have e : shape p.2 = shape p'.2 := (all p (pL.mem_iff.mp hp)).trans (all p' (pL.mem_iff.mp hp')).symm
    show alikeAll _ _ = true
    exact alike_shape e
  · intro ds pd
    refine .inl fun d hd => ?_
    obtain ⟨p, hp, rfl⟩ := List.mem_map.mp hd
    have e := all p (pL.mem_iff.mp (pd.mem_iff.mp hp))
    cases hkk : p.2 with
    | nil => rw [hkk] at e; exact absurd e.symm hsh
    | cons x k => exact ⟨ofKey x, k.map ofKey, rfl⟩
  · intro p hp
    have e : (ofTup p.2).depth = 1 := by
      unfold ofTup
      rw [PyData.depth, depth_ofKey]
    rw [e]
    omega
  · intro s' p out c M old g o big made eM pM pw
    have free : H p = none := I.hok.fresh big
    have pML : M.Perm L := pM.trans pL
    have lenM : (M.map fun p => V.ref p.1).length ≤ sizeLine := by
      rw [List.length_map, pML.length_eq, ← size_of pm]
      exact sizes Hd.few
    have vM : Vals (M.map fun p => V.ref p.1) out.toList := vals_refs (eM.mono fun v p e => e.1)
    have J : Inv X pins σ (upd H p (.lst (M.map fun p => V.ref p.1))) s' := I.call' (ch := []) o (Un.laid old big free) (I.hok.laid old big ⟨lenM, out.toList, c, vM, by simpa [seqObj] using made⟩) (by rw [g]; exact I.bare) (fun _ z => nomatch z)
    exact ⟨.ref p, _, J, rfl, q M p pML (rise_of (fun p hp => all p (pML.mem_iff.mp hp)) ((pML.map (·.2)).nodup_iff.mpr nd) pw) free⟩
end
end MX
end
section
/-! Sets of numbers and words, up to the bound of scans. -/
namespace MX
open PySem PySem.Spec PyProof.Rows L2 PySem.W

/-- a set that is gone through by scans, and walked in some order -/
structure Scan (w : World) (h : Heap) (a : Addr) (es : Array (Int × Value)) (ep : Nat) (t : SetTable) : Prop where
  obj : ∃ o, h.get? a = some o ∧ o.ExactSet ∧ o.data = .set es ep t
  fits : t.fits es.size = true
  ris : Ris t.place.toList
  order : w.params.followText "set-order" = true ∨ t.led = true
  low : es.size < scanBound
theorem Scan.stays {w : World} {h h' : Heap} {a : Addr} {es : Array (Int × Value)} {ep : Nat} {t : SetTable} (R : Scan w h a es ep t) (k : ∀ o, h.get? a = some o → h'.get? a = some o) : Scan w h' a es ep t := by
  obtain ⟨o, ho, more⟩ := R.obj
  exact { R with obj := ⟨o, k o ho, more⟩ }
/-- a number's or word's key -/
def keyAt : Value → Key
  | .int i _ => .inl i
  | .str x _ => .inr x
  | _ => .inl 0
theorem keyAt_of {k : Key} {v : Value} (h : keyIs k v = true) : keyAt v = k := by
  rcases keyIs_shape h with ⟨i, t, rfl, rfl⟩ | ⟨x, t, rfl, rfl⟩ <;> rfl
theorem scan_leaf {k : Key} {v : Value} (h : keyIs k v = true) : v.scannable = true := by
  rcases keyIs_shape h with ⟨i, t, rfl, rfl⟩ | ⟨x, t, rfl, rfl⟩ <;> rfl
abbrev keysIn (es : Array (Int × Value)) : List Key := es.toList.map fun e => keyAt e.2

/-- at a stands a set of so many keys -/
structure SetQ (P : Program) (w : World) (h : Heap) (a : Addr) (S : Key → Bool) (n : Nat) : Prop where
  scan : ∃ es ep t, Scan w h a es ep t ∧ ElemsOf (mixKind P w) es.toList ∧ (keysIn es).Nodup ∧ (∀ k, S k = true ↔ k ∈ keysIn es) ∧ es.size = n
theorem SetQ.stays {P : Program} {w : World} {h h' : Heap} {a : Addr} {S : Key → Bool} {n : Nat} (R : SetQ P w h a S n) (k : ∀ o, h.get? a = some o → h'.get? a = some o) : SetQ P w h' a S n := by
  obtain ⟨es, ep, t, R, more⟩ := R.scan
  exact ⟨es, ep, t, R.stays k, more⟩
theorem SetQ.some_obj {P : Program} {w : World} {h : Heap} {a : Addr} {S : Key → Bool} {n : Nat} (R : SetQ P w h a S n) : ∃ o, h.get? a = some o := by
  obtain ⟨es, ep, t, R, _⟩ := R.scan
  obtain ⟨o, ho, _⟩ := R.obj
  exact ⟨o, ho⟩
theorem here_key {P : Program} {w : World} {es : Array (Int × Value)} (el : ElemsOf (mixKind P w) es.toList) (k : Key) : k ∈ keysIn es ↔ ∃ e ∈ es.toList, (mixKind P w).is k e.2 = true := by
  rw [List.mem_map]
  constructor
  · rintro ⟨e, he, rfl⟩
    obtain ⟨⟨k', hk', _⟩, _⟩ := el e he
    exact ⟨e, he, by rw [keyAt_of hk']; exact hk'⟩
  · rintro ⟨e, he, hk⟩
    exact ⟨e, he, keyAt_of hk⟩
/-- membership is the library's -/
theorem SetQ.setOf {P : Program} {w : World} {h : Heap} {a : Addr} {S : Key → Bool} {n : Nat} (R : SetQ P w h a S n) : h.SetOf (mixKind P w) a S n := by
  obtain ⟨es, ep, t, R, el, _, mem, sz⟩ := R.scan
  obtain ⟨o, ho, ex, hd⟩ := R.obj
  exact ⟨o, es, ep, t, ho, ex, hd, el, fun k => (mem k).trans (here_key el k), R.low, R.fits, sz⟩
theorem setQ_new {P : Program} {w : World} {h : Heap} {a : Addr} (ho : h.get? a = some (newbie w)) : SetQ P w h a (fun _ => false) 0 := by
  have H := held_new ho
  exact ⟨#[], 0, _, ⟨H.obj, H.fits, H.tab.ris, H.order, by decide⟩, fun e he => by simp at he, List.nodup_nil, fun k => by simp [keysIn], rfl⟩
theorem SetQ.same {P : Program} {w : World} {h : Heap} {a : Addr} {S S' : Key → Bool} {n n' : Nat} (R : SetQ P w h a S n) (e : ∀ k, S' k = S k) (en : n' = n) : SetQ P w h a S' n' := by
  obtain ⟨es, ep, t, K, el, nd, mem, sz⟩ := R.scan
  exact ⟨es, ep, t, K, el, nd, fun k => by rw [e k]; exact mem k, sz.trans en.symm⟩

section
variable {P : Program} {w : World} {A : Around} {E : Value → Shared → Prop} {s : Shared} {a : Addr}

/-- one more is added -/
theorem add_key {S : Key → Bool} {n : Nat} {k : Key} {x : Value} {Q : Bool → Shared → Prop} (R : SetQ P w s.heap a S n) (hk : keyIs k x = true) (room : n + 1 < scanBound)
    (q : ∀ b h', Heap.SameBut a s.heap h' → SetQ P w h' a (fun j => S j || decide (j = k)) (if S k = true then n else n + 1) → Q b { s with heap := h' }) :
    wpAny (model P w) A (setAddHashed a x ((mixKind P w).hash k)) Q E s := by
  obtain ⟨es, ep, t, K, el, nd, mem, sz⟩ := R.scan
  obtain ⟨o, ho, ex, hd⟩ := K.obj
  have hx := scan_leaf hk
  have hk' : (mixKind P w).is k x = true := hk
  unfold setAddHashed
  refine wpAny_holding ?_
  rw [show (100000 : Nat) = 99999 + 1 from rfl, setAddHashedIn_succ]
  refine wpAny_bind (wpAny_setState_of ho hd K.fits ?_)
  dsimp only
  refine wp_if_pos (byScan_of hx K.low el) ?_
  unfold setAddByScan
  refine wpAny_bind (wpAny_bind (wpAny_rule (wpAny_bind (wpAny_setScan_of hk' ho hd K.fits el ?_))))
  cases hf : List.findIdx? (fun e => (mixKind P w).is k e.2) es.toList with
  | some j =>
    obtain ⟨hj, yes, _⟩ := List.findIdx?_eq_some_iff_getElem.mp hf
    have inS : S k = true := (mem k).mpr ((here_key el k).mpr ⟨_, List.getElem_mem hj, yes⟩)
    refine wpAny_pure (wpAny_pure (q false s.heap (Heap.SameBut.refl a s.heap) (R.same (fun i => ?_) (if_pos inS))))
    rcases Classical.em (i = k) with e | e
    · rw [e, inS]; rfl
    · rw [decide_eq_false e, Bool.or_false]
  | none =>
    have out : S k = false := by
      cases c : S k with
      | false => rfl
      | true =>
        obtain ⟨e, he, yes⟩ := (here_key el k).mp ((mem k).mp c)
        have z := List.findIdx?_eq_none_iff.mp hf e he
        rw [yes] at z
        cases z
    have notin : k ∉ keysIn es := fun z => by rw [(mem k).mpr z] at out; cases out
    have pm := layNew_perm t es ((mixKind P w).hash k) x
    have fit := layNew_fits t es ((mixKind P w).hash k) x
    have ris := layNew_ris t es ((mixKind P w).hash k) x K.ris
    have led := layNew_led t es ((mixKind P w).hash k) x
    generalize layNew t es ((mixKind P w).hash k) x = new at pm fit ris led
    obtain ⟨es1, t1, dummy, gave⟩ := new
    dsimp only at pm fit ris led ⊢
    rw [Array.toList_push] at pm
    have ord : w.params.followText "set-order" = true ∨ t1.led = true := K.order.imp id fun z => led.trans z
    have sz1 : es1.size = n + 1 := by
      have z := pm.length_eq
      rw [List.length_append, Array.length_toList, Array.length_toList, sz] at z
      exact z
    have done : ∀ {h' : Heap} {es2 : Array (Int × Value)} {ep2 : Nat} {t2 : SetTable}, Heap.SameBut a s.heap h' → (∃ o, h'.get? a = some o ∧ o.ExactSet ∧ o.data = .set es2 ep2 t2) → t2.fits es2.size = true → Ris t2.place.toList →
        (w.params.followText "set-order" = true ∨ t2.led = true) → es2.toList.Perm es1.toList → Q true { s with heap := h' } := fun {h' es2 ep2 t2} sb at2 fit2 ris2 ord2 p2 => by
      have p3 : es2.toList.Perm (es.toList ++ [((mixKind P w).hash k, x)]) := p2.trans pm
      have sz2 : es2.size = n + 1 := by
        have z := p2.length_eq
        rw [Array.length_toList, Array.length_toList, sz1] at z
        exact z
      have keys : (keysIn es2).Perm (keysIn es ++ [k]) := by
        have z := p3.map fun e => keyAt e.2
        rw [List.map_append, List.map_cons, List.map_nil] at z
        rw [show keyAt x = k from keyAt_of hk] at z
        exact z
      refine q true h' sb ⟨es2, ep2, t2, ⟨at2, fit2, ris2, ord2, by rw [sz2]; exact room⟩, ElemsOf.perm (el.push hk' hx) p3, keys.nodup_iff.mpr ?_, fun j => ?_, by rw [if_neg (by rw [out]; decide)]; exact sz2⟩
      · exact List.nodup_append.mpr ⟨nd, by simp, fun i hi j hj e => notin (by rw [← List.mem_singleton.mp hj, ← e]; exact hi)⟩
      · rw [keys.mem_iff, List.mem_append, List.mem_singleton, Bool.or_eq_true, decide_eq_true_iff, mem j]
    have stay1 : ∀ t2 : SetTable, Heap.SameBut a s.heap (s.heap.update a (Obj.putSet es1 t2)) := fun t2 => Heap.SameBut.update s.heap a _
    have obj1 : ∀ t2 : SetTable, (s.heap.update a (Obj.putSet es1 t2)).get? a = some { o with data := .set es1 (ep + 1) t2 } := fun t2 => by
      have z := Heap.get?_update_self (Obj.putSet es1 t2) ho (by rw [putSet_of es1 t2 hd] <;> rfl)
      rw [putSet_of es1 t2 hd] at z
      exact z
    have sizes1 : es1.size ≤ sizeLine := fits_of_scanBound (by rw [sz1]; exact room)
    -- the rest behind the new table
    have rest : ∀ (t2 : SetTable) (g : Bool → Sem Unit), (∀ b (s1 : Shared) (Q' : Unit → Shared → Prop), Q' () s1 → wpAny (model P w) A (g b) Q' E s1) → t2.fits es1.size = true → Ris t2.place.toList → (w.params.followText "set-order" = true ∨ t2.led = true) →
        wpAny (model P w) A (do
          storeSet a es1 t2
          if (!dummy && t2.tooFull) = true then do
            g (relayAll t2 es1 (SetTable.grown es1.size)).2.2
            storeSet a (relayAll t2 es1 (SetTable.grown es1.size)).1 (relayAll t2 es1 (SetTable.grown es1.size)).2.1
            pure (some true)
          else pure (some true)) (fun r s2 => r = some true ∧ Q true s2) E s := fun t2 g hg fit2 ris2 ord2 => by
      refine wpAny_bind (wpAny_storeSet_of ho hd ?_ sizes1)
      split
      · have pm2 := relayAll_perm t2 es1 (SetTable.grown es1.size)
        have fit3 := relayAll_fits t2 es1 (SetTable.grown es1.size)
        have ris3 := relayAll_ris t2 es1 (SetTable.grown es1.size)
        have led3 := relayAll_led t2 es1 (SetTable.grown es1.size)
        generalize relayAll t2 es1 (SetTable.grown es1.size) = new2 at pm2 fit3 ris3 led3
        obtain ⟨es2, t3, gave2⟩ := new2
        dsimp only at pm2 fit3 ris3 led3 ⊢
        have sz2 : es2.size = es1.size := by
          have z := pm2.length_eq
          rw [Array.length_toList, Array.length_toList] at z
          exact z
        refine wpAny_bind (hg _ _ _ ?_)
        refine wpAny_bind (wpAny_storeSet_of (obj1 t2) rfl ?_ (by rw [sz2]; exact sizes1))
        refine wpAny_pure ⟨rfl, done ((stay1 t2).trans (Heap.SameBut.update _ a _)) ⟨{ o with data := .set es2 (ep + 1 + 1) t3 }, ?_, ex, rfl⟩ fit3 ris3 (ord2.imp id fun z => led3.trans z) pm2⟩
        have z := Heap.get?_update_self (Obj.putSet es2 t3) (obj1 t2) (by rw [putSet_of es2 t3 rfl] <;> rfl)
        rw [putSet_of es2 t3 rfl] at z
        exact z
      · exact wpAny_pure ⟨rfl, done (stay1 t2) ⟨_, obj1 t2, ex, rfl⟩ fit2 ris2 ord2 (List.Perm.refl _)⟩
    have ends : ∀ {m : Sem (Option Bool)}, wpAny (model P w) A m (fun r s2 => r = some true ∧ Q true s2) E s → wpAny (model P w) A m (fun r s2 => wpAny (model P w) A (match r with | some added => pure added | none => setAddHashedIn a x ((mixKind P w).hash k) 99999) Q E s2) E s := fun {m} h => wpAny_mono h (fun r s2 ⟨e, z⟩ => by rw [e]; exact wpAny_pure z) fun _ _ z => z
    have ways : ∀ (b : Bool) (s1 : Shared) (Q' : Unit → Shared → Prop), Q' () s1 → wpAny (model P w) A (match b with | true => rule "set.scan.the-table-gave-way" | false => pure ()) Q' E s1 := fun b s1 Q' z => by
      cases b with
      | true => exact wpAny_rule z
      | false => exact wpAny_pure z
    refine wpAny_bind (ways _ _ _ ?_)
    by_cases pl : t1.plain = true
    · refine wp_if_pos pl ?_
      rw [hashByValue_scannable 8 hx]
      refine wpAny_bind (wpAny_pure ?_)
      have three : ∀ y : Bool, (if y = true then t1 else { t1 with plain := false }).fits es1.size = true ∧ Ris (if y = true then t1 else { t1 with plain := false }).place.toList ∧ (w.params.followText "set-order" = true ∨ (if y = true then t1 else { t1 with plain := false }).led = true) := fun y => by
        cases y with
        | true => exact ⟨fit, ris, ord⟩
        | false => exact ⟨SetTable.fits_plain_off fit, ris, ord⟩
      obtain ⟨u1, u2, u3⟩ := three (plainKind x)
      exact ends (rest _ _ ways u1 u2 u3)
    · refine wp_if_neg pl (wpAny_bind (wpAny_pure ?_))
      exact ends (rest t1 _ ways fit ris ord)
end
end MX
end
section
/-! set(..), sorted(..), in and add read: numbers and words. -/
namespace MX
open PySem PySem.Spec PyProof.Rows L2 PySem.W

def SetQO (P : Program) (w : World) (a : Addr) (S : Key → Bool) (n : Nat) : HO := .ext fun h => SetQ P w h a S n
theorem ok_setQO {P : Program} {w : World} {H : Hp} {h : Heap} {a : Addr} {S : Key → Bool} {n : Nat} (R : SetQ P w h a S n) : ObjOk P w H h a (SetQO P w a S n) := ⟨R, R.some_obj, fun _ _ p k => SetQ.stays p k⟩
/-- whether a key is a number -/
def isNum : Key → Bool
  | .inl _ => true
  | .inr _ => false
def rSetQ (K : PySem.W.Frag) (P : Program) (w : World) : List V → Hp → VK → Prop := fun xs H Q => ∃ (a : Addr) (ks : List Key), xs = [V.ref a] ∧ (SqL K H a (ks.map kV) ∨ SqT K H a (ks.map kV)) ∧ ks.length < 4096 ∧
  ∀ (p : Addr) (S : Key → Bool) (n : Nat), H p = none → (∀ k, S k = true ↔ k ∈ ks) → n ≤ ks.length → Q (.ref p) (upd H p (SetQO P w p S n))
def rSortedQ (P : Program) (w : World) : List V → Hp → VK → Prop := fun xs H Q => ∃ (a : Addr) (S : Key → Bool) (n : Nat) (b : Bool), xs = [V.ref a] ∧ H a = some (SetQO P w a S n) ∧ (∀ k, S k = true → isNum k = b) ∧
  ∀ (M : List Key) (q : Addr), Up M → (∀ k, k ∈ M ↔ S k = true) → M.length = n → H q = none → Q (.ref q) (upd H q (.lst (M.map kV)))
def rInQ (P : Program) (w : World) (neg : Bool) : V → V → Hp → VK → Prop := fun x y H Q => ∃ (k : Key) (a : Addr) (S : Key → Bool) (n : Nat), x = kV k ∧ y = V.ref a ∧ H a = some (SetQO P w a S n) ∧ Q (.bl (if neg = true then !S k else S k)) H
def rAddQ (P : Program) (w : World) : V → List V → Hp → VK → Prop := fun x xs H Q => ∃ (a : Addr) (k : Key) (S : Key → Bool) (n : Nat), x = V.ref a ∧ xs = [kV k] ∧ H a = some (SetQO P w a S n) ∧ n + 1 < scanBound ∧
  Q .non (upd H a (SetQO P w a (fun j => S j || decide (j = k)) (if S k = true then n else n + 1)))

theorem each_keys {P : Program} {w : World} : ∀ {l : List (Int × Value)}, ElemsOf (mixKind P w) l → EachIs (fun v k => keyIs k v = true) (l.map (·.2)) (l.map fun e => keyAt e.2)
  | [], _ => .nil
  | e :: l, h => by
    obtain ⟨⟨k, hk, _⟩, _⟩ := h e List.mem_cons_self
    have z : keyIs (keyAt e.2) e.2 = true := by
      have y : keyIs k e.2 = true := hk
      rw [keyAt_of y]
      exact y
    exact .cons z (each_keys fun x hx => h x (List.mem_cons_of_mem _ hx))
theorem is_key {k : Key} {v : Value} (r : RelV (kV k) v) : keyIs k v = true := by
  cases k with
  | inl i => obtain ⟨t, rfl⟩ := r; exact keyIs_int i t
  | inr x => obtain ⟨t, rfl⟩ := r; exact keyIs_str x t
theorem vals_keys : ∀ {ks : List Key} {us : List Value}, EachIs (fun v k => keyIs k v = true) us ks → Vals (ks.map kV) us
  | [], _, .nil => .nil
  | k :: ks, _, .cons e t => by
    refine .cons ?_ (vals_keys t)
    rcases keyIs_shape e with ⟨i, t, rfl, rfl⟩ | ⟨x, t, rfl, rfl⟩
    · exact ⟨t, rfl⟩
    · exact ⟨t, rfl⟩
theorem each_at {ks : List Key} {us : List Value} (v : Vals (ks.map kV) us) : EachIs (fun v k => keyIs k v = true) us ks := by
  induction ks generalizing us with
  | nil => cases v; exact .nil
  | cons k ks ih =>
    cases v with
    | cons r t => exact .cons (is_key r) (ih t)
theorem each_get {R : Value → Key → Prop} : ∀ {us : List Value} {ks : List Key}, EachIs R us ks → ∀ {i : Nat} {v : Value}, us[i]? = some v → ∃ k, ks[i]? = some k ∧ R v k
  | _, _, .nil, _, _, e => by simp at e
  | _, _, .cons r t, 0, _, e => by cases e; exact ⟨_, rfl, r⟩
  | _, _, .cons r t, i + 1, _, e => each_get t e
theorem alike_num {a b : Key} (e : isNum a = isNum b) : alike (ofKey a) (ofKey b) = true := by
  cases a with
  | inl i =>
    cases b with
    | inl j => rfl
    | inr y => cases e
  | inr x =>
    cases b with
    | inl j => cases e
    | inr y => rfl
theorem up_of {l : List Key} {b : Bool} (all : ∀ k ∈ l, isNum k = b) (nd : l.Nodup) (pw : l.Pairwise fun k k' => dataLt (ofKey k') (ofKey k) = false) : Up l := by
  refine (List.Pairwise.and nd pw).imp_of_mem fun {k k'} hk hk' ⟨ne, le⟩ => ?_
  cases e : kl k k' with
  | true => rfl
  | false => exact absurd (key_same (alike_num ((all k hk).trans (all k' hk').symm)) e le) ne

section
variable {X : Cx} {pins : List (Addr × Obj)} {σ : L2.St} {H : Hp} {s : Shared}
theorem get_setQ (I : Inv X pins σ H s) {a : Addr} {S : Key → Bool} {n : Nat} (e : H a = some (SetQO X.prog X.w a S n)) : SetQ X.prog X.w s.heap a S n := (I.hok a _ e).1
theorem cr_setQ (hc : X.calm = true) (hu : X.A.units + 64 < cLine) : CallR X (.type "set") (rSetQ X.K X.prog X.w) := by
  intro pins s σ H xs us Q I r h
  obtain ⟨a, ks, rfl, ha, few, q⟩ := h
  rw [Vals.ref1 r]
  have seq : ∃ items : Array Value, (s.heap.IsList a items ∨ s.heap.IsTuple a items) ∧ EachIs (fun v k => keyIs k v = true) items.toList ks := by
    rcases ha with ha | ha
    · obtain ⟨its, rv, pl, _⟩ := I.list ha
      exact ⟨its.toArray, .inl pl.isList, by simpa using each_at rv⟩
    · obtain ⟨its, rv, ht, _⟩ := I.tuple ha
      exact ⟨its.toArray, .inr ht, by simpa using each_at rv⟩
  obtain ⟨items, at_, each⟩ := seq
  have size : items.size = ks.length := by rw [← Array.length_toList, each.length]
  have free : H s.heap.objs.size = none := I.hok.fresh (Nat.le_refl _)
  refine set_seq at_ (I.ok.hd hc) (fun i h' => ∃ S n, SetQ X.prog X.w h' s.heap.objs.size S n ∧ (∀ k, S k = true ↔ k ∈ ks.take i) ∧ n ≤ i) ?_ ?_ ?_ ?_
  · intro h' old made
    exact ⟨_, 0, setQ_new made, fun k => by simp, Nat.le_refl 0⟩
  · rintro i h1 h2 ⟨S, n, R, mem, le⟩ k
    exact ⟨S, n, R.stays fun o e => k _ o (Nat.le_refl _) e, mem, le⟩
  · rintro A' i v s1 E' Q' low ev ⟨S, n, R, mem, le⟩ _ k
    obtain ⟨key, hkey, is⟩ := each_get each (i := i) (v := v) (by rw [Array.getElem?_toList]; exact ev)
    have lt : i < ks.length := (List.getElem?_eq_some_iff.mp hkey).1
    unfold setAdd
    refine wpAny_holding (wpAny_bind ((mixKind X.prog X.w).pyHash is ?_))
    refine add_key (s := { s1 with toks := s1.toks + 1 }) R is (show n + 1 < 4096 by omega) fun b h' sb R' => k b h' _ (Nat.le_succ _) sb ⟨_, _, R', fun j => ?_, ?_⟩
    · rw [List.take_add_one, hkey, Bool.or_eq_true, mem j, decide_eq_true_iff]
      simp [List.mem_append]
    · split <;> omega
  · rintro h' tk ⟨S, n, R, mem, le⟩ old
    rw [size] at mem le
    rw [List.take_length] at mem
    exact ⟨.ref _, upd H s.heap.objs.size (SetQO X.prog X.w s.heap.objs.size S n), I.laid (t' := tk) old (Nat.le_refl _) (ok_setQO R), rfl, q _ S n free mem le⟩

theorem cr_sortedQ (hc : X.calm = true) (hu : X.A.units + 64 < cLine) : CallR X (.builtin "sorted") (rSortedQ X.prog X.w) := by
  intro pins s σ H xs us Q I r h
  obtain ⟨a, S, n, b, rfl, ha, all, q⟩ := h
  have R := get_setQ I ha
  obtain ⟨es, ep, t, K, el, nd, mem, sz⟩ := R.scan
  rw [Vals.ref1 r]
  have at_ : SetAt s.heap a es ep t := by
    obtain ⟨o, ho, ex, hd⟩ := K.obj
    exact ⟨o, ho, ex.1, hd⟩
  have num : ∀ k ∈ keysIn es, isNum k = b := fun k hk => all k ((mem k).mpr hk)
  refine sort_held (enc := ofKey) (R := fun v k => keyIs k v = true) (bs := keysIn es) at_ K.fits K.low K.ris K.order (I.ok.hd hc) (each_keys el) ?_ ?_ ?_ ?_ ?_
  · intro v k h' old e
    rcases keyIs_shape e with ⟨i, t, rfl, rfl⟩ | ⟨x, t, rfl, rfl⟩
    · exact .int i t
    · exact .str x t
  · exact fun k hk k' hk' => alike_num ((num k hk).trans (num k' hk').symm)
  · exact fun ds _ => Sortable.others fun k => by cases k <;> exact ⟨by simp [ofKey], by simp [ofKey]⟩
  · intro k hk
    have e : (ofKey k).depth = 0 := by cases k <;> rfl
    rw [e]
    omega
  · intro s' p out c M old g o big made eM pM pw
    have free : H p = none := I.hok.fresh big
    have lenM : M.length = n := by
      rw [pM.length_eq, List.length_map, Array.length_toList]
      exact sz
    have low : (M.map kV).length ≤ sizeLine := by
      rw [List.length_map, lenM, ← sz]
      exact fits_of_scanBound K.low
    have J : Inv X pins σ (upd H p (.lst (M.map kV))) s' := I.call' (ch := []) o (Un.laid old big free) (I.hok.laid old big ⟨low, out.toList, c, vals_keys eM, by simpa [seqObj] using made⟩) (by rw [g]; exact I.bare) (fun _ z => nomatch z)
    exact ⟨.ref p, _, J, rfl, q M p (up_of (fun k hk => num k (pM.mem_iff.mp hk)) (pM.nodup_iff.mpr nd) pw) (fun k => by rw [pM.mem_iff, mem k]) lenM free⟩

theorem op_inQ : OpR X (compareOp .In) (rInQ X.prog X.w false) := by
  intro pins s σ H x y v u Q I rx ry h
  obtain ⟨k, a, S, n, rfl, rfl, ha, q⟩ := h
  have is := is_key rx
  cases ry
  exact wpAny_inSet_of (knd := mixKind X.prog X.w) is (scan_leaf is) (get_setQ I ha).setOf (show EP X pins σ Q _ _ from ⟨.bl (S k), H, I.tok _, rfl, q⟩)
theorem op_notInQ : OpR X (compareOp .NotIn) (rInQ X.prog X.w true) := by
  intro pins s σ H x y v u Q I rx ry h
  obtain ⟨k, a, S, n, rfl, rfl, ha, q⟩ := h
  have is := is_key rx
  cases ry
  exact wpAny_notInSet_of (knd := mixKind X.prog X.w) is (scan_leaf is) (get_setQ I ha).setOf (show EP X pins σ Q _ _ from ⟨.bl (!S k), H, I.tok _, rfl, q⟩)

/-- found.add(k), the call itself -/
theorem call_add {A : Around} {E : Value → Shared → Prop} {a : Addr} {S : Key → Bool} {n : Nat} {k : Key} {x : Value} {Q : Value → Shared → Prop} {P : Program} {w : World} (R : SetQ P w s.heap a S n) (is : keyIs k x = true) (room : n + 1 < scanBound)
    (q : ∀ h', Heap.SameBut a s.heap h' → SetQ P w h' a (fun j => S j || decide (j = k)) (if S k = true then n else n + 1) → Q .none { s with heap := h', toks := s.toks + 1 }) :
    wpAny (model P w) A (call (.builtin "set.add") [.ref a, x]) Q E s := by
  have ty : s.TypeIs (.ref a) "set" := R.setOf.typeIs
  refine wpAny_call_entry F.slot_set_add ty F.entry_set_add ?_ (F.args_set_add_2 (.ref a) x)
  unfold Builtin.«set.add» Builtin.Frozenset.oneOther Builtin.Frozenset.addrOf
  refine wpAny_bind (wpAny_bind (wpAny_pure ?_))
  try dsimp only
  refine wpAny_bind (wpAny_pure (wpAny_pure ?_))
  unfold setAdd
  refine wpAny_bind (wpAny_holding (wpAny_bind ((mixKind P w).pyHash is ?_)))
  refine add_key (s := { s with toks := s.toks + 1 }) R is room fun b h' sb R' => ?_
  exact wpAny_pure ⟨_, rfl, q h' sb R'⟩
theorem wrote (I : Inv X pins σ H s) {a : Addr} {S S' : Key → Bool} {n n' t' : Nat} {h' : Heap} (e : H a = some (SetQO X.prog X.w a S n)) (sb : Heap.SameBut a s.heap h') (R' : SetQ X.prog X.w h' a S' n') :
    Inv X pins σ (upd H a (SetQO X.prog X.w a S' n')) { s with heap := h', toks := t' } :=
  I.write (e := a) (t' := t') (by rw [e]; exact True.intro) (.inl rfl) (fun b u ne hu => (sb.2 b ne).trans hu) R'.some_obj (ok_setQO R')
def tAddQ (P : Program) (w : World) (to : TE) (t : TA) : TE := fun σ H Q => to σ H fun x H1 => (∃ a S n, x = V.ref a ∧ H1 a = some (SetQO P w a S n)) ∧ t σ H1 fun xs H2 => rAddQ P w x xs H2 Q
theorem pe_addQ {o e : Expr} {es : List Expr} {to : TE} {t : TA} {apos cpos : Pos} (ho : PE X o to) (ha : PA X (e :: es) t)
    (plain : attributeBase o "add" X.env (eval o X.env) = eval o X.env := by rfl)
    (few : ((backTo cpos (starEach (e :: es) X.env)).all (fun x => !x.1) && (backToKw cpos (keywordEach [] X.env)).all (fun x => x.1.isSome)
      && decide ((e :: es).length + ([] : List Keyword).length + (if ([] : List Keyword).isEmpty then 0 else 1) < 30)) = true := by rfl)
    (row : (apos.endLine == cpos.line) = true := by rfl) (first : starEach (e :: es) X.env = (false, eval e X.env) :: starEach es X.env := by rfl) (nost : (backTo cpos (starEach es X.env)).any (·.1) = false := by rfl) :
    PE X (.Call (.Attribute o "add" apos) (e :: es) [] cpos) (tAddQ X.prog X.w to t) := by
  constructor
  intro pins s σ H Q I h
  refine wpAny_Call_method_late plain few row rfl ?_
  refine thn (ho.run pins s σ H _ I h) fun v s1 ⟨x, H1, I1, r1, known, q1⟩ => ?_
  obtain ⟨a, S, n, rfl, at_⟩ := known
  obtain rfl : v = Value.ref a := r1
  have lib := (get_setQ I1 at_).setOf
  refine ⟨"set", "set.add", F.plainAttrs_set, F.slot_set_add, F.type_set_add, lib.typeIs, lib.noDict, ?_⟩
  have args := ha.run cpos pins s1 σ H1 _ I1 q1
  rw [first] at args ⊢
  refine Calls.callWith_builtin ?_ (Calls.evalArgs_plain (thn args fun us s2 ⟨vs, H2, I2, r2, q2⟩ => ?_))
  · show (false || List.any (backTo cpos (starEach es X.env)) (·.1)) = false
    rw [nost, Bool.or_false]
  obtain ⟨b, k, S2, n2, eb, rfl, hb, room, q3⟩ := q2
  cases eb
  cases r2 with
  | cons ru rest =>
    cases rest
    refine call_add (get_setQ I2 hb) (is_key ru) room fun h' sb R' => ?_
    exact ⟨.non, upd H2 a (SetQO X.prog X.w a (fun j => S2 j || decide (j = k)) (if S2 k = true then n2 else n2 + 1)), wrote I2 hb sb R', rfl, q3⟩
end
end MX
end
section
/-! Comprehensions that gather something new, whatever it is. -/
namespace MX
open PySem PySem.Spec PyProof.Rows L2 PySem.W

/-- new D: what stands at D at first; body: what a turn does when its tests are true -/
def tGather (new : Addr → HO) (body : Addr → L2.St → Hp → (Hp → Prop) → Prop) (wi : TI) (g : TG) (tt : TT) (vs : List Nat) : TE := fun σ H Q => wi σ H fun J H1 => ∀ D, H1 D = none →
  ∃ W : Nat → Nat → Hp → Prop, (∃ m, W 0 m (upd H1 D (new D))) ∧ ∀ i m H2, W i m H2 → (J.stop i H2 ∧ Q (.ref D) H2) ∨
    (J.go i H2 ∧ ∃ Nx : Hp → Prop, (∀ H', Nx H' → ∃ m', m' < m ∧ W (i + 1) m' H') ∧ ∀ x H', J.yld i H2 x H' → g x (wipe σ vs) H' fun σ2 H3 => wipe σ2 vs = wipe σ vs ∧ tt σ2 H3 fun b H4 => if b = true then body D σ2 H4 Nx else Nx H4)

section
variable {X : Cx}
abbrev nobody : Value → Shared → Prop := fun _ _ => False
/-- one turn of the block's loop: Iv what holds between turns, B the block's context -/
def OneTurn (X B : Cx) (tg : Expr) (ifs : List Expr) (it : Addr) (body : L2.St → Hp → (Hp → Prop) → Prop) (Iv : Nat → Shared → Prop) (stop : Shared → Prop) (n : Nat) (s : Shared) : Prop :=
  wpAny (model X.prog X.w) X.A (pyNext (.ref it)) (fun r s1 => match r with
    | none => stop s1
    | some v => wpAny (model X.prog X.w) X.A (letOwnedTupleGo tg (.ref it) v) (fun _ s2 => wpAny (model X.prog X.w) X.A (assign tg B.env v) (fun _ s3 =>
        wpAny (model X.prog X.w) X.A (forIn ifs true fun c r => if r = true then do let ok ← isTrue c B.env (eval c B.env); pure (ForInStep.yield ok) else pure (ForInStep.yield r)) (fun b s4 =>
          ∃ pl σ H Nx, L2.Inv B pl σ H s4 ∧ (if b = true then body σ H Nx else Nx H) ∧ ∀ s' H', L2.Inv B pl σ H' s' → Nx H' → ∃ m, m < n ∧ Iv m s') nobody s3) nobody s2) nobody s1) nobody s

theorem gather {e tg iter : Expr} {ifs : List Expr} {scope : Scope} {own : List (PySem.Str × Nat)} {pos' : Pos} {mk : Sem Value} {o0 : Obj} {new : Addr → HO} {body : Addr → L2.St → Hp → (Hp → Prop) → Prop} {wi : TI} {g : TG} {tt : TT} {use : Option (Value → Sem Unit)}
    {Qf : Value → Shared → Prop} {pins : List (Addr × Obj)} {s : Shared} {σ : L2.St} {H : Hp} {Q : VK} (hc : X.calm = true) (hN : X.N.Nodup) (I : L2.Inv X pins σ H s) (hi : PI X tg iter wi) (ok : BlkOk X.N X.env.scope scope own) (clauses : clausesOf e = [⟨tg, iter, ifs, 0⟩])
    (hmk : ∀ (s : Shared) (Q : Value → Shared → Prop), Q (.ref s.heap.objs.size) { s with heap := s.heap.push o0 } → wpAny (model X.prog X.w) X.A mk Q X.xe s)
    (hnew : ∀ (s : Shared) (H : Hp), L2.Inv X pins σ H s → ObjOk X.prog X.w (upd H s.heap.objs.size (new s.heap.objs.size)) (s.heap.push o0) s.heap.objs.size (new s.heap.objs.size))
    (hg : ∀ (s : Shared) (H : Hp) (C : Addr) (cl : List (PySem.Str × Addr)) (fp : List Addr), PG (X.blk s H scope (compEnvC scope cl C X.env) fp) tg g) (ht : ∀ (s : Shared) (H : Hp) (C : Addr) (cl : List (PySem.Str × Addr)) (fp : List Addr), PTs (X.blk s H scope (compEnvC scope cl C X.env) fp) ifs tt)
    (loops : ∀ (s3 : Shared) (H3 : Hp) (C : Addr) (cl : List (PySem.Str × Addr)) (fp : List Addr) (it D : Addr) (Iv : Nat → Shared → Prop) (R : Result → Shared → Prop),
      (∀ n s5, Iv n s5 → OneTurn X (X.blk s3 H3 scope (compEnvC scope cl C X.env) fp) tg ifs it (body D) Iv (fun s1 => R (.ok .next) s1) n s5) → ∀ n s4, Iv n s4 → codeAny (model X.prog X.w) X.A (.compLoop e 0 (.ref it) (.ref D) (compEnvC scope cl C X.env)) R s4)
    (starts : ∀ (it acc : Value) (ce : Env) (R : Result → Shared → Prop) (s4 : Shared), codeAny (model X.prog X.w) X.A (.compLoop e 0 it acc ce) R s4 →
      wpAny (model X.prog X.w) X.A (pyIter it) (fun it' s' => codeAny (model X.prog X.w) X.A (.compLoop e 0 it' acc ce) R s') (notedBy (model X.prog X.w) X.A ce fun x s' => R (.error x) s') s4 → codeAny (model X.prog X.w) X.A (.compStart e 0 it acc ce) R s4)
    (hs : ∀ x, foldedSetIterable iter X.env x = pure x) (h : tGather new body wi g tt (own.map (·.2)) σ H Q)
    (out : ∀ D C s' m H', L2.Inv X pins σ H' s' → Q (.ref D) H' → s'.heap.Ns C m → FpOk X pins H' C → compPost (model X.prog X.w) X.A X.xe use Qf (.ref D) C (.ok .next) s') :
    wpAny (model X.prog X.w) X.A (comprehension e scope X.env pos' mk false (eval iter X.env) use) Qf X.xe s := by
  have closed : ∀ y ∈ scope.names, y.2 = .free → ∃ c, X.env.cells.lookup y.1 = some c := fun y hy ey =>
    (ok.free y hy ey).elim (fun k => I.ok.has _ (.inl k)) fun k => I.ok.has _ (.inr k)
  refine wpAny_comprehension_free (use := use) clauses hs (closure_ok closed) ok.kind (fun y hy ey => by rw [ok.uniq y hy, ey]) ?_
  refine thn (hi.run pins s σ H _ I h) fun _ _ hx => thn hx fun itv s2 h2 => ?_
  obtain ⟨it, fp, tn, J, H2, rfl, I2, T, st2, f2, q⟩ := h2
  refine hmk s2 _ (newEnv_comp ?_)
  have fresh : H2 s2.heap.objs.size = none := I2.hok.fresh (Nat.le_refl _)
  obtain ⟨W, ⟨m0, w0⟩, turn⟩ := q s2.heap.objs.size fresh
  have I3 : L2.Inv X pins σ (upd H2 s2.heap.objs.size (new s2.heap.objs.size)) { s2 with heap := s2.heap.push o0 } := I2.laid (t' := s2.toks) (fun b o eo => Heap.get?_push_of_some _ eo) (Nat.le_refl _) (hnew s2 H2 I2)
  have up : ∀ b o, s2.heap.get? b = some o → (s2.heap.push o0).get? b = some o := fun b o eo => Heap.get?_push_of_some _ eo
  have f3 : ∀ b ∈ fp, FpOk X pins (upd H2 s2.heap.objs.size (new s2.heap.objs.size)) b ∧ b < (s2.heap.push o0).objs.size := fun b hb => by
    obtain ⟨o, eo, _⟩ := T.obj _ _ st2 b hb
    have lt := Heap.lt_size eo
    refine ⟨⟨?_, (f2 b hb).2⟩, by rw [Heap.size_push]; exact Nat.lt_succ_of_lt lt⟩
    rw [upd_ne (Nat.ne_of_lt lt)]
    exact (f2 b hb).1
  have st3 : tn 0 (s2.heap.push o0) := T.keep _ _ _ st2 fun b _ o eo => up b o eo
  have I4 := block_start I3 ok hN f3
  obtain ⟨cl, ecl⟩ : ∃ cl, cl = cellsFrom ((s2.heap.push o0).objs.size + 1) scope.names (cloFrom X.env.cells scope.names []) := ⟨_, rfl⟩
  have st4 : tn 0 (pushCells ((s2.heap.push o0).push { cls := .type "dict", data := .dict #[] }) scope.names) := T.keep _ _ _ st3 fun b _ o eo => pushCells_keeps _ _ _ _ (Heap.get?_push_of_some _ eo)
  obtain ⟨s4, es4⟩ : ∃ s4 : Shared, s4 = { s2 with heap := pushCells ((s2.heap.push o0).push { cls := .type "dict", data := .dict #[] }) scope.names } := ⟨_, rfl⟩
  have I4 : L2.Inv (X.blk { s2 with heap := s2.heap.push o0 } (upd H2 s2.heap.objs.size (new s2.heap.objs.size)) scope (compEnvC scope cl (s2.heap.push o0).objs.size X.env) fp) [] (wipe σ (own.map (·.2))) (upd H2 s2.heap.objs.size (new s2.heap.objs.size)) s4 := by
    rw [es4, ecl]
    exact I4
  have st4' : tn 0 s4.heap := by rw [es4]; exact st4
  have none0 : ∀ b ∈ fp, upd H2 s2.heap.objs.size (new s2.heap.objs.size) b = none := fun b hb => (f3 b hb).1.1
  have loop := loops { s2 with heap := s2.heap.push o0 } (upd H2 s2.heap.objs.size (new s2.heap.objs.size)) (s2.heap.push o0).objs.size cl fp it s2.heap.objs.size
    (fun n s' => ∃ i H', L2.Inv (X.blk { s2 with heap := s2.heap.push o0 } (upd H2 s2.heap.objs.size (new s2.heap.objs.size)) scope (compEnvC scope cl (s2.heap.push o0).objs.size X.env) fp) [] (wipe σ (own.map (·.2))) H' s' ∧ tn i s'.heap ∧ (∀ b ∈ fp, H' b = none) ∧ W i n H')
    (compPost (model X.prog X.w) X.A X.xe use Qf (.ref s2.heap.objs.size) (s2.heap.push o0).objs.size) ?_ m0 s4 ⟨0, _, I4, st4', none0, w0⟩
  · have all : codeAny (model X.prog X.w) X.A (.compStart e 0 (.ref it) (.ref s2.heap.objs.size) (compEnvC scope cl (s2.heap.push o0).objs.size X.env)) (compPost (model X.prog X.w) X.A X.xe use Qf (.ref s2.heap.objs.size) (s2.heap.push o0).objs.size) s4 :=
      starts _ _ _ _ _ loop (T.self X.A 0 _ _ _ st4' loop)
    rw [es4, ecl] at all
    exact all
  · rintro n s5 ⟨i, H5, I5, st5, n5, w5⟩
    have fine : ∀ {H' : Hp} {s' : Shared}, L2.Inv (X.blk { s2 with heap := s2.heap.push o0 } (upd H2 s2.heap.objs.size (new s2.heap.objs.size)) scope (compEnvC scope cl (s2.heap.push o0).objs.size X.env) fp) [] (wipe σ (own.map (·.2))) H' s' → (∀ b ∈ fp, H' b = none) →
        ∀ b ∈ fp, FpOk (X.blk { s2 with heap := s2.heap.push o0 } (upd H2 s2.heap.objs.size (new s2.heap.objs.size)) scope (compEnvC scope cl (s2.heap.push o0).objs.size X.env) fp) [] H' b := fun {H' s'} I' hn b hb =>
      ⟨hn b hb, (I'.ok.exf b hb).1, I'.ok.exfs b hb, .inl hb, fun x c ec => (I'.ok.exf b hb).2 x c ec, fun p hp => nomatch hp⟩
    unfold OneTurn
    rcases turn i n H5 w5 with ⟨stop, qs⟩ | ⟨go, Nx, less, step⟩
    · refine thnF (T.done (X.blk _ _ scope _ fp) rfl rfl rfl hc i [] s5 _ H5 nobody I5 (fine I5 n5) st5 stop) fun r s6 ⟨er, I6⟩ => ?_
      subst er
      have I7 : L2.Inv X pins σ H5 s6 := I3.call' (ch := fp) I6.os I6.base I6.hok I6.bare fun b hb => by
        obtain ⟨_, k1, k2, k3, k4, k5⟩ := (f3 b hb).1
        exact ⟨k3, k1, k4, k5⟩
      obtain ⟨mm, ns, _⟩ := I6.loc
      exact out _ _ s6 mm H5 I7 qs ns (I3.fpOk (Nat.le_refl _) I6.free)
    · refine thnF (T.item (X.blk _ _ scope _ fp) rfl rfl rfl hc i [] s5 _ H5 nobody I5 (fine I5 n5) st5 go) fun r s6 ⟨u, er, h6⟩ => ?_
      subst er
      refine thnF h6 fun _ s7 ⟨x, H7, I7, rel, yl, st7, n7⟩ => ?_
      have I8 := I7.pinned (fine I7 n7) (T.obj _ _ st7)
      refine thnF ((hg _ _ _ cl fp).run _ s7 _ H7 x u _ I8 rel (step x H7 yl)) fun _ s8 ⟨σ8, H8, I9, kw, q8⟩ => ?_
      refine thnF ((ht _ _ _ cl fp).run _ s8 σ8 H8 _ I9 q8) fun b s9 ⟨H9, I10, q9⟩ => ?_
      refine ⟨_, σ8, H9, Nx, I10, q9, fun s' H' I' nx => ?_⟩
      obtain ⟨m', lt, w'⟩ := less H' nx
      have held : ∀ c ∈ fp, ∀ o, s7.heap.get? c = some o → s'.heap.get? c = some o ∧ H' c = none := fun c hcc o eo => by
        obtain ⟨k1, k2, _⟩ := I'.pin (c, o) (List.mem_append_right _ (List.mem_append_right _ (mem_pinsAt hcc eo)))
        exact ⟨k1, k2⟩
      refine ⟨m', lt, i + 1, H', (I'.unpinned (pins := [])).weak (by rw [← kw, wipe_length]) (fun j v ev => ?_), T.keep _ _ _ st7 fun c hcc o eo => (held c hcc o eo).1, fun c hcc => ?_, w'⟩
      · rw [← kw] at ev
        exact (wipe_some ev).1
      · obtain ⟨o, eo, _⟩ := T.obj _ _ st7 c hcc
        exact (held c hcc o eo).2
end
end MX
end
section
/-! {e for x in xs if t} with numbers or words; {x: v for x in xs} whose keys are tuples. -/
namespace MX
open PySem PySem.Spec PyProof.Rows L2 PySem.W

def tSetQ (P : Program) (w : World) (wi : TI) (g : TG) (tt : TT) (te : TE) (vs : List Nat) : TE :=
  tGather (fun D => SetQO P w D (fun _ => false) 0) (fun D σ H Nx => te σ H fun y H4 => ∃ (k : Key) (S : Key → Bool) (n : Nat), y = kV k ∧ H4 D = some (SetQO P w D S n) ∧ n + 1 < scanBound ∧
    Nx (upd H4 D (SetQO P w D (fun j => S j || decide (j = k)) (if S k = true then n else n + 1)))) wi g tt vs
def tDcT (wi : TI) (g : TG) (tt : TT) (tk tv : TE) (vs : List Nat) : TE :=
  tGather (fun _ => .dT []) (fun D σ H Nx => tk σ H fun y H4 => tv σ H4 fun z H5 => ∃ (kvs : List (List Key × V)) (k : List Key) (b : Addr), y = .ref b ∧ H5 b = some (.tup (k.map kV)) ∧ H5 D = some (.dT kvs) ∧ kvs.length < sizeLine ∧
    Nx (upd H5 D (.dT (putK kvs k z)))) wi g tt vs

section
variable {X : Cx}
/-- d[(..)] = v by a comprehension -/
theorem put_dt {pins : List (Addr × Obj)} {σ : L2.St} {H : Hp} {s : Shared} {E : Value → Shared → Prop} {D b : Addr} {kvs : List (List Key × V)} {k : List Key} {v : V} {r : Value} {Q : Unit → Shared → Prop} (hu : X.A.units < cLine) (I : L2.Inv X pins σ H s)
    (hD : H D = some (.dT kvs)) (hb : H b = some (.tup (k.map kV))) (room : kvs.length < sizeLine) (rv : RelV v r) (q : ∀ s', L2.Inv X pins σ (upd H D (.dT (putK kvs k v))) s' → Q () s') : wpAny (model X.prog X.w) X.A (dictSet D (.ref b) r) Q E s := by
  obtain ⟨low, notSys, xs, rel, dict⟩ := dt_of I.hok hD
  have lowx : xs.length ≤ sizeLine := by rw [← Paired.length rel]; exact low
  have big : (putK kvs k v).length ≤ sizeLine := by
    have := length_putK kvs k v
    omega
  refine wpAny_dictSet_heap (knd := tupleKind (mixKind X.prog X.w)) (hsz := lowx) hu (key_of I.hok hb) dict fun h' dict' sb => q _ ?_
  obtain ⟨o, es, ep, ho, ex, hd, he, _, nd⟩ := dict'
  refine d_write I (by rw [hD]; exact True.intro) sb ⟨o, ho⟩ ⟨big, notSys, _, (rel.put k hb rv).keeps fun c ys hc => ?_, o, es, ep, ho, ex, hd, he, nd⟩
  have ne : c ≠ D := fun e => by rw [e, hD] at hc; cases hc
  rw [upd_ne ne]
  exact hc

theorem pe_setQ {elt tg iter : Expr} {ifs : List Expr} {scope : Scope} {own : List (PySem.Str × Nat)} {pos : Pos} {wi : TI} {g : TG} {tt : TT} {te : TE} (hc : X.calm = true) (hN : X.N.Nodup) (hi : PI X tg iter wi) (ok : BlkOk X.N X.env.scope scope own)
    (hg : ∀ (s : Shared) (H : Hp) (C : Addr) (cl : List (PySem.Str × Addr)) (fp : List Addr), PG (X.blk s H scope (compEnvC scope cl C X.env) fp) tg g) (ht : ∀ (s : Shared) (H : Hp) (C : Addr) (cl : List (PySem.Str × Addr)) (fp : List Addr), PTs (X.blk s H scope (compEnvC scope cl C X.env) fp) ifs tt)
    (he : ∀ (s : Shared) (H : Hp) (C : Addr) (cl : List (PySem.Str × Addr)) (fp : List Addr), PE (X.blk s H scope (compEnvC scope cl C X.env) fp) elt te) (hs : ∀ x, foldedSetIterable iter X.env x = pure x := by intro _; rfl) :
    PE X (.SetComp elt [⟨tg, iter, ifs, 0⟩] scope pos) (tSetQ X.prog X.w wi g tt te (own.map (·.2))) := by
  constructor
  intro pins s σ H Q I h
  rw [PpSet.eval_SetComp]
  refine gather (o0 := newbie X.w) hc hN I hi ok rfl (fun s Q q => PpSet.newSet_ok q) (fun s H I' => ok_setQO (setQ_new (Heap.get?_push_size _ rfl))) hg ht ?_ (fun it acc ce R s4 a b => PpSet.codeAny_compStart_set a b) hs h ?_
  · intro s3 H3 C cl fp it D Iv R turns n s4 i4
    refine PpSet.compLoopS_any Iv (fun n s5 i5 => thnF (turns n s5 i5) fun r s6 h6 => ?_) n i4
    cases r with
    | none => exact h6
    | some v =>
      refine thnF h6 fun _ s7 h7 => thnF h7 fun _ s8 h8 => thnF h8 fun b s9 ⟨pl, σ9, H9, Nx, I9, q9, next⟩ => ?_
      cases b with
      | false => exact next s9 H9 I9 q9
      | true =>
        refine thnF ((he s3 H3 C cl fp).run pl s9 σ9 H9 _ I9 q9) fun z s10 ⟨y, H10, I10, r10, k, S, m, ey, at10, room, nx⟩ => ?_
        subst ey
        exact call_add (get_setQ I10 at10) (is_key r10) room fun h' sb R' => next _ _ (wrote I10 at10 sb R') nx
  · intro D C s' m H' I' q ns f
    refine ⟨m, ns, fun h2 sb => ?_⟩
    obtain ⟨f0, f1, f2, f3, f4, f5⟩ := f
    exact ⟨.ref D, H', I'.turned (t' := s'.toks) (fun b o hb e => (sb.2 b hb).trans e) f0 f1 f3 f4 f5, rfl, q⟩

theorem pe_dcT {kx vx tg iter : Expr} {ifs : List Expr} {scope : Scope} {own : List (PySem.Str × Nat)} {pos : Pos} {wi : TI} {g : TG} {tt : TT} {tk tv : TE} (hc : X.calm = true) (hu : X.A.units < cLine) (hN : X.N.Nodup) (hi : PI X tg iter wi) (ok : BlkOk X.N X.env.scope scope own)
    (hg : ∀ (s : Shared) (H : Hp) (C : Addr) (cl : List (PySem.Str × Addr)) (fp : List Addr), PG (X.blk s H scope (compEnvC scope cl C X.env) fp) tg g) (ht : ∀ (s : Shared) (H : Hp) (C : Addr) (cl : List (PySem.Str × Addr)) (fp : List Addr), PTs (X.blk s H scope (compEnvC scope cl C X.env) fp) ifs tt)
    (hk : ∀ (s : Shared) (H : Hp) (C : Addr) (cl : List (PySem.Str × Addr)) (fp : List Addr), PE (X.blk s H scope (compEnvC scope cl C X.env) fp) kx tk)
    (he : ∀ (s : Shared) (H : Hp) (C : Addr) (cl : List (PySem.Str × Addr)) (fp : List Addr), PE (X.blk s H scope (compEnvC scope cl C X.env) fp) vx tv) (hs : ∀ x, foldedSetIterable iter X.env x = pure x := by intro _; rfl) :
    PE X (.DictComp kx vx [⟨tg, iter, ifs, 0⟩] scope pos) (tDcT wi g tt tk tv (own.map (·.2))) := by
  constructor
  intro pins s σ H Q I h
  rw [arm_eval_DictComp]
  refine gather (o0 := { cls := .type "dict", data := .dict #[] }) hc hN I hi ok rfl (fun s Q q => wpAny_newObj_type q) (fun s H I' => dt_empty s.heap I'.big) hg ht ?_ (fun it acc ce R s4 a b => codeAny_compStart_dict a b) hs h ?_
  · intro s3 H3 C cl fp it D Iv R turns n s4 i4
    refine compLoop_anyD Iv (fun n s5 i5 => thnF (turns n s5 i5) fun r s6 h6 => ?_) n i4
    cases r with
    | none => exact h6
    | some v =>
      refine thnF h6 fun _ s7 h7 => thnF h7 fun _ s8 h8 => thnF h8 fun b s9 ⟨pl, σ9, H9, Nx, I9, q9, next⟩ => ?_
      cases b with
      | false => exact next s9 H9 I9 q9
      | true =>
        refine thnF ((hk s3 H3 C cl fp).run pl s9 σ9 H9 _ I9 q9) fun z s10 ⟨y, H10, I10, r10, q10⟩ => ?_
        refine thnF ((he s3 H3 C cl fp).run pl s10 σ9 H10 _ I10 q10) fun z2 s11 ⟨y2, H11, I11, r11, kvs, k, b, ey, atb, atD, room, nx⟩ => ?_
        subst ey
        obtain rfl : z = Value.ref b := r10
        exact put_dt (X := X.blk s3 H3 scope (compEnvC scope cl C X.env) fp) hu I11 atD atb room r11 fun s12 I12 => next s12 _ I12 nx
  · intro D C s' m H' I' q ns f
    refine ⟨m, ns, fun h2 sb => ?_⟩
    obtain ⟨f0, f1, f2, f3, f4, f5⟩ := f
    exact ⟨.ref D, H', I'.turned (t' := s'.toks) (fun b o hb e => (sb.2 b hb).trans e) f0 f1 f3 f4 f5, rfl, q⟩
end

/-- the turns over a tuple -/
abbrev TurnsOver (K : PySem.W.Frag) (a : Addr) (g : TG) (tt : TT) (vs : List Nat) (σ : L2.St) (body : L2.St → Hp → (Hp → Prop) → Prop) (H0 : Hp) (Qd : Hp → Prop) : Prop :=
  ∃ W : Nat → Nat → Hp → Prop, (∃ m, W 0 m H0) ∧ ∀ i m H, W i m H → ((Itt K a).stop i H ∧ Qd H) ∨
    ((Itt K a).go i H ∧ ∃ Nx : Hp → Prop, (∀ H', Nx H' → ∃ m', m' < m ∧ W (i + 1) m' H') ∧ ∀ x H', (Itt K a).yld i H x H' → g x (wipe σ vs) H' fun σ2 H3 => wipe σ2 vs = wipe σ vs ∧ tt σ2 H3 fun b H4 => if b = true then body σ2 H4 Nx else Nx H4)
/-- that stays -/
theorem gather_tup {K : PySem.W.Frag} {a : Addr} {xs : List V} {body : L2.St → Hp → (Hp → Prop) → Prop} {g : TG} {tt : TT} {vs : List Nat} {σ : L2.St} {H0 : Hp} {Qd : Hp → Prop} (Pv : Nat → Hp → Prop) (h0 : Pv 0 H0) (hl : ∀ i H, i ≤ xs.length → Pv i H → SqT K H a xs)
    (hs : ∀ i x H, xs[i]? = some x → Pv i H → g x (wipe σ vs) H fun σ2 H3 => wipe σ2 vs = wipe σ vs ∧ tt σ2 H3 fun b H4 => if b = true then body σ2 H4 (Pv (i + 1)) else Pv (i + 1) H4) (hd : ∀ H, Pv xs.length H → Qd H) : TurnsOver K a g tt vs σ body H0 Qd := by
  refine ⟨fun i m H => i + m = xs.length ∧ Pv i H, ⟨xs.length, Nat.zero_add _, h0⟩, fun i m H ⟨e, p⟩ => ?_⟩
  have here := hl i H (by omega) p
  cases m with
  | zero =>
    obtain rfl : i = xs.length := by omega
    exact .inl ⟨⟨xs, here, Nat.le_refl _⟩, hd H p⟩
  | succ m =>
    have lt : i < xs.length := by omega
    refine .inr ⟨⟨xs, xs[i], here, List.getElem?_eq_getElem lt⟩, Pv (i + 1), fun H' p' => ⟨m, Nat.lt_succ_self m, by omega, p'⟩, fun x H' y => ?_⟩
    rw [y.1]
    exact hs i x H (y.2 xs here) p
theorem setq_tup {P : Program} {w : World} {K : PySem.W.Frag} {a : Addr} {xs : List V} {g : TG} {tt : TT} {te : TE} {vs : List Nat} {σ : L2.St} {H1 : Hp} {D : Addr} {Qd : Hp → Prop} (Pv : Nat → Hp → Prop) (h0 : Pv 0 (upd H1 D (SetQO P w D (fun _ => false) 0))) (hl : ∀ i H, i ≤ xs.length → Pv i H → SqT K H a xs)
    (hs : ∀ i x H, xs[i]? = some x → Pv i H → g x (wipe σ vs) H fun σ2 H3 => wipe σ2 vs = wipe σ vs ∧ tt σ2 H3 fun b H4 => if b = true then te σ2 H4 fun y H5 => ∃ (k : Key) (S : Key → Bool) (n : Nat), y = kV k ∧ H5 D = some (SetQO P w D S n) ∧ n + 1 < scanBound ∧
      Pv (i + 1) (upd H5 D (SetQO P w D (fun j => S j || decide (j = k)) (if S k = true then n else n + 1))) else Pv (i + 1) H4) (hd : ∀ H, Pv xs.length H → Qd H) :
    TurnsOver K a g tt vs σ (fun σ H Nx => te σ H fun y H4 => ∃ (k : Key) (S : Key → Bool) (n : Nat), y = kV k ∧ H4 D = some (SetQO P w D S n) ∧ n + 1 < scanBound ∧
      Nx (upd H4 D (SetQO P w D (fun j => S j || decide (j = k)) (if S k = true then n else n + 1)))) (upd H1 D (SetQO P w D (fun _ => false) 0)) Qd := gather_tup Pv h0 hl hs hd
theorem dct_tup {K : PySem.W.Frag} {a : Addr} {xs : List V} {g : TG} {tt : TT} {tk tv : TE} {vs : List Nat} {σ : L2.St} {H1 : Hp} {D : Addr} {Qd : Hp → Prop} (Pv : Nat → Hp → Prop) (h0 : Pv 0 (upd H1 D (.dT []))) (hl : ∀ i H, i ≤ xs.length → Pv i H → SqT K H a xs)
    (hs : ∀ i x H, xs[i]? = some x → Pv i H → g x (wipe σ vs) H fun σ2 H3 => wipe σ2 vs = wipe σ vs ∧ tt σ2 H3 fun b H4 => if b = true then tk σ2 H4 fun y H5 => tv σ2 H5 fun z H6 => ∃ (kvs : List (List Key × V)) (k : List Key) (b : Addr), y = .ref b ∧ H6 b = some (.tup (k.map kV)) ∧ H6 D = some (.dT kvs) ∧ kvs.length < sizeLine ∧
      Pv (i + 1) (upd H6 D (.dT (putK kvs k z))) else Pv (i + 1) H4) (hd : ∀ H, Pv xs.length H → Qd H) :
    TurnsOver K a g tt vs σ (fun σ H Nx => tk σ H fun y H4 => tv σ H4 fun z H5 => ∃ (kvs : List (List Key × V)) (k : List Key) (b : Addr), y = .ref b ∧ H5 b = some (.tup (k.map kV)) ∧ H5 D = some (.dT kvs) ∧ kvs.length < sizeLine ∧
      Nx (upd H5 D (.dT (putK kvs k z)))) (upd H1 D (.dT [])) Qd := gather_tup Pv h0 hl hs hd
end MX
end
section
/-! enumerate(xs), xs a list or a tuple. -/
namespace MX
open PySem PySem.Spec PyProof.Rows L2 PySem.W

/-- the tuple at a as it stands at each turn, each item in a new pair -/
def IteT (K : PySem.W.Frag) (a : Addr) : It where
  go i H := ∃ (xs : List V) (x : V), SqT K H a xs ∧ xs[i]? = some x
  yld i H v H' := ∃ T x, v = .ref T ∧ H T = none ∧ H' = upd H T (.tup [.int (i : Nat), x]) ∧ ∀ xs, SqT K H a xs → xs[i]? = some x
  stop i H := ∃ xs : List V, SqT K H a xs ∧ xs.length ≤ i
def iEnumS (K : PySem.W.Frag) (ta : TA) : TI := fun σ H R => ta σ H fun vs H1 => ∃ a xs, vs = [.ref a] ∧ ((SqL K H1 a xs ∧ R (Ite K a) H1) ∨ (SqT K H1 a xs ∧ R (IteT K a) H1))

set_option maxHeartbeats 1000000 in
/-- a new enumerate over what can begin -/
theorem enum_made {v : Value} {o : Obj} {Hh : Heap → Prop} (B : Begins v o Hh) : Meets (Builtin.«enumerate.__new__» ⟨[.type "enumerate", v], []⟩) (fun _ R s => Hh s.heap ∧
    R (.ok (.ret (.ref (s.heap.push o).objs.size))) { s with heap := (s.heap.push o).push { cls := .type "enumerate", data := .fields #[.none, .bool false, .ref s.heap.objs.size, rawInt 0, .none, .none] } }) := by
  refine Meets.of_wp fun P w A R s ⟨ready, fin⟩ => ?_
  obtain ⟨heap, gens, drawn, toks, os⟩ := s
  have sub := sub_enumerate
  have begin_ : ∀ {A' : Around} {E : Value → Shared → Prop} {Q : Value → Shared → Prop}, Q (.ref heap.objs.size) ⟨heap.push o, gens, drawn, toks, os⟩ → wpAny (model P w) A' (pyIter v) Q E ⟨heap, gens, drawn, toks, os⟩ :=
    fun z => B.iter P w _ _ ⟨heap, gens, drawn, toks, os⟩ _ ready z
  wp_walk using begin_
  refine wpAny_stack_any fun frames => wpAny_pure ?_
  split
  · rename_i c _ _ _ _ _
    rcases Bool.eq_false_or_eq_true (c == Value.type "enumerate") with y | y
    all_goals
      rw [y]
      wp_walk using begin_
      exact ⟨_, rfl, fin⟩
  · wp_walk using begin_
    exact ⟨_, rfl, fin⟩
section
variable {P : Program} {w : World} {A : Around} {E : Value → Shared → Prop} {s : Shared}
theorem enum_call {v : Value} {o : Obj} {Hh : Heap → Prop} {Q : Value → Shared → Prop} (B : Begins v o Hh) (ready : Hh s.heap)
    (q : ∀ h', IsEnum h' (s.heap.objs.size + 1) s.heap.objs.size 0 .none → h'.get? s.heap.objs.size = some o → (∀ b u, s.heap.get? b = some u → h'.get? b = some u) → Q (.ref (s.heap.objs.size + 1)) { s with heap := h' }) :
    wpAny (model P w) A (call (.type "enumerate") [v]) Q E s := by
  have size1 : (s.heap.push o).objs.size = s.heap.objs.size + 1 := Heap.size_push ..
  have en : IsEnum ((s.heap.push o).push { cls := .type "enumerate", data := .fields #[.none, .bool false, .ref s.heap.objs.size, rawInt 0, .none, .none] }) (s.heap.objs.size + 1) s.heap.objs.size 0 .none := by
    have z := Heap.get?_push_size (s.heap.push o) (o := { cls := .type "enumerate", data := .fields #[.none, .bool false, .ref s.heap.objs.size, rawInt 0, .none, .none] }) rfl
    rw [size1] at z
    exact z
  refine callType_new F.called_enumerate (by decide) (F.typeCall_enumerate_1 v) (F.newCall_enumerate_1 v) (fun obj => F.args_object_init_2 obj v) F.entry_enumerate_new (enum_made B) ⟨ready, ?_⟩
  show _ ∧ _
  rw [size1]
  exact ⟨⟨_, en, rfl⟩, q _ en (Heap.get?_push_of_some _ (Heap.get?_push_size _ B.free)) fun b u e => Heap.get?_push_of_some _ (Heap.get?_push_of_some _ e)⟩
end

/-- its turns, over a tuple -/
theorem turn_enumT {P : Program} {w : World} {K : PySem.W.Frag} {elts : List Expr} {kk : Nat} {tpos : Pos} (a e it : Addr) :
    Turn P w K (.Tuple elts kk tpos) (IteT K a) [e, it] e (fun i h => (∃ old, IsEnum h e it ((i : Nat) : Int) old) ∧ h.IsTupleIter it a i ∧ e ≠ it ∧ a ≠ e ∧ a ≠ it) where
  mem := List.mem_cons_self
  obj := by
    rintro i h ⟨⟨old, en⟩, ⟨o, ho, _, hd⟩, _⟩ b hb
    rcases List.mem_cons.mp hb with rfl | hb
    · exact ⟨_, en, fun v z => nomatch z⟩
    · rw [List.mem_singleton.mp hb]
      exact ⟨o, ho, fun v z => by rw [hd] at z; cases z⟩
  keep := by
    rintro i h h' ⟨⟨old, en⟩, ti, more⟩ k
    exact ⟨⟨old, k e List.mem_cons_self _ en⟩, ti.at fun o z => k it (List.mem_cons_of_mem _ List.mem_cons_self) o z, more⟩
  item := by
    rintro X rfl rfl rfl hc i pins s σ H E I ok ⟨⟨old, en⟩, ti, ne, ne1, ne2⟩ ⟨xs, x, seq, at_⟩
    obtain ⟨its, rv, tup, _⟩ := I.tuple seq
    obtain ⟨u, hu, ru⟩ := rv.get at_
    have lt1 : e < s.heap.objs.size := Heap.lt_size en
    have lt2 : it < s.heap.objs.size := by
      obtain ⟨o, ho, _⟩ := ti
      exact Heap.lt_size ho
    have few : i < its.toArray.size := by
      rw [List.size_toArray]
      exact (List.getElem?_eq_some_iff.mp hu).1
    have out : e ∉ [it, a] := by
      rw [List.mem_cons, List.mem_singleton]
      rintro (z | z)
      · exact ne z
      · exact ne1 z.symm
    refine wpAny_pyNext_enum_itemD (Draws.tuple (A := X.A.in1) (I.ok.hd hc) it a ne2 its.toArray) en ⟨ti, tup⟩ few ne out fun v h1 tk pv out1 ⟨ti1, _⟩ made size1 old1 => ?_
    have ev : v = u := by
      have z : its.toArray[i]? = some v := pv
      rw [List.getElem?_toArray, hu] at z
      exact (Option.some.inj z).symm
    subst ev
    refine ⟨_, rfl, wpAny_letOwnedTupleGo_enum (s := { s with heap := h1, toks := tk + 1 }) out1 fun h2 en2 sb => ?_⟩
    have ne3 : s.heap.objs.size ≠ e := Nat.ne_of_gt lt1
    have made2 : h2.get? s.heap.objs.size = some { cls := .type "tuple", data := .seq #[.int i tk, v] } := (sb.2 _ ne3).trans made
    have new : ObjOk X.prog X.w (upd H s.heap.objs.size (.tup [.int (i : Nat), x])) h2 s.heap.objs.size (.tup [.int (i : Nat), x]) := by
      refine ⟨?_, [.int i tk, v], .cons ⟨tk, rfl⟩ (.cons ru .nil), ⟨_, made2, rfl, 0, rfl⟩⟩
      show 2 ≤ sizeLine
      rw [sizeLine_eq]
      omega
    have I1 : L2.Inv X pins σ (upd H s.heap.objs.size (.tup [.int (i : Nat), x])) { s with heap := h2, toks := tk + 1 } := by
      refine I.turnedNew (ch := [e, it]) (fun b o nb hb => ?_) ok (Nat.le_refl _) new
      have b1 : b ≠ e := fun z => nb (by rw [z]; exact List.mem_cons_self)
      have b2 : b ≠ it := fun z => nb (by rw [z]; exact List.mem_cons_of_mem _ List.mem_cons_self)
      exact (sb.2 b b1).trans (old1 b o b1 b2 hb)
    refine ⟨.ref s.heap.objs.size, _, I1, rfl, ⟨_, x, rfl, I.hok.fresh (Nat.le_refl _), rfl, fun ys hy => ?_⟩, ⟨⟨v, ?_⟩, ti1.at fun o z => (sb.2 it (Ne.symm ne)).trans z, ne, ne1, ne2⟩, fun b hb => ?_⟩
    · rw [I.tuple_inj hy seq]
      exact at_
    · rw [show ((i + 1 : Nat) : Int) = (i : Int) + 1 by omega]
      exact en2
    · have lb : b < s.heap.objs.size := by
        rcases List.mem_cons.mp hb with z | z
        · rw [z]; exact lt1
        · rw [List.mem_singleton.mp z]; exact lt2
      rw [upd_ne (Nat.ne_of_lt lb)]
      exact (ok b hb).1
  done := by
    rintro X rfl rfl rfl hc i pins s σ H E I ok ⟨⟨old, en⟩, ti, ne, ne1, ne2⟩ ⟨xs, seq, le⟩
    obtain ⟨its, rv, tup, _⟩ := I.tuple seq
    have len := rv.length
    obtain ⟨f0, f1, f2, f3, f4, f5⟩ := ok it (List.mem_cons_of_mem _ List.mem_cons_self)
    have past : its.toArray[i]? = none := by
      rw [List.getElem?_toArray]
      exact List.getElem?_eq_none (by omega)
    have over : Draws X.prog X.w X.A.in1 it [it, a] i (fun _ _ => False) (fun j h => j = i ∧ h.IsTupleIter it a j ∧ h.IsTuple a its.toArray) := by
      refine ⟨fun j h ⟨_, ⟨o, ho, _⟩, _⟩ => ⟨o, ho⟩, fun j h h' ⟨ej, t1, t2⟩ k => ⟨ej, t1.at fun o z => k it (by simp) o z, t2.at fun o z => k a (by simp) o z⟩, fun j s Q E lt ⟨ej, _⟩ _ => absurd lt (by omega), fun s Q E ⟨_, t1, t2⟩ z => ?_⟩
      exact wpAny_nextOf_tuple_end (I.ok.hd hc) t1 t2 past z
    exact wpAny_pyNext_enum_endD over en ⟨rfl, ti, tup⟩ fun h' eb => ⟨rfl, I.turned (t' := s.toks) (fun b o nb z => eb b o nb z) f0 f1 f3 f4 f5⟩
  self := fun A i s Q E st z => by
    obtain ⟨⟨_, en⟩, _⟩ := st
    exact wpAny_pyIter_enum en z

/-- for i, x in enumerate(xs) -/
theorem pi_enumS {X : Cx} {e : Expr} {ta : TA} {p pos tpos : Pos} {elts : List Expr} {kk : Nat} (hg : Gl X "enumerate") (hm : X.mg "enumerate" = none) (ha : PA X [e] ta) (hs : starEach [e] X.env = [(false, eval e X.env)] := by rfl) :
    PI X (.Tuple elts kk tpos) (.Call (.Name "enumerate" p) [e] [] pos) (iEnumS X.K ta) := by
  constructor
  intro pins s σ H R I h
  refine Call_ (ld_blt I hg hm boot_enumerate (PyProof.Rows.callWith_type1 ?_ hs rfl))
  refine thn (ha.run pos pins s σ H _ I h) fun us s1 ⟨vs, H1, I1, r1, a, xs, ev, which⟩ => ?_
  subst ev
  rw [Vals.ref1 r1]
  have two : ∀ b ∈ [s1.heap.objs.size + 1, s1.heap.objs.size], FpOk X pins H1 b := fun b hb => by
    have big : s1.heap.objs.size ≤ b := by
      rcases List.mem_cons.mp hb with z | z
      · rw [z]; exact Nat.le_succ _
      · rw [List.mem_singleton.mp z]; exact Nat.le_refl _
    exact I1.fpOk big (I1.hok.fresh big)
  rcases which with ⟨seq, q⟩ | ⟨seq, q⟩
  · obtain ⟨its, rv, pl, _⟩ := I1.list seq
    refine enum_call (begins_list a its.toArray) pl.isList fun h' en made old => wpAny_pyIter_enum en ?_
    exact ⟨_, _, _, _, H1, rfl, I1.kept (t' := s1.toks) old, turn_enum a (s1.heap.objs.size + 1) s1.heap.objs.size, ⟨⟨_, en⟩, ⟨_, made, rfl, rfl⟩, Nat.succ_ne_self _⟩, two, q⟩
  · obtain ⟨its, rv, tup, _⟩ := I1.tuple seq
    have lt : a < s1.heap.objs.size := by
      obtain ⟨o, ho, _⟩ := tup
      exact Heap.lt_size ho
    refine enum_call (begins_tuple a its.toArray) tup fun h' en made old => wpAny_pyIter_enum en ?_
    exact ⟨_, _, _, _, H1, rfl, I1.kept (t' := s1.toks) old, turn_enumT a (s1.heap.objs.size + 1) s1.heap.objs.size, ⟨⟨_, en⟩, ⟨_, made, rfl, rfl⟩, Nat.succ_ne_self _, Nat.ne_of_lt (Nat.lt_succ_of_lt lt), Nat.ne_of_lt lt⟩, two, q⟩
end MX
end
section
/-! len(o), o != p of own instances; making one and a method of one where a try stands around. -/
namespace L2
open PySem PySem.Spec PyProof.Rows PySem.W

section
variable {X : Cx} {CX : CXT} {k : Nat} {f C : Addr} {fd : FuncData} {ps : List PySem.Str} {sp : Sp} {E : XK} {pins : List (Addr × Obj)} {σ : L2.St} {H : Hp} {s : Shared} {Q : VK} {us : List Value} {vs : List V} {A : Around}

/-- an own function called from within a built-in one -/
theorem run_sub (sb : Sub X k A) (F : FnOk X.prog X.w X.K X.mg X.base CX k f fd ps sp) (hb : Binds X.K fd ps []) (hx : PassesAt CX X σ E) (I : Inv X pins σ H s) (r : Vals vs us) (h : sp vs H Q E) :
    wpAny (model X.prog X.w) A (call (.ref f) us) (EP X pins σ Q) X.xe s := by
  have env : Env0 X.prog X.w X.K X.mg X.base A X.stack s H := { I.env0 with frames := sb.fr.trans I.env0.frames }
  have bound := hb s us I.kIn (by rw [List.append_nil, ← r.length]; exact F.len vs H Q E h)
  rw [List.append_nil] at bound
  refine wpAny_call (codeAny_mono (F.run A X.stack s H ⟨us, []⟩ us vs Q E sb.room env bound r h) fun res s' z => ?_)
  match res, z with
  | .error e, z => exact hx pins H s e s' I z
  | .ok (.ret u), z => exact I.after z
theorem sub_one (hr : Room (k + 1) X.A) : Sub X k X.A.in1 := ⟨hr.in1, rfl⟩

/-- the instance's class, as the model looks it up -/
theorem inst_at (I : Inv X pins σ H s) {a dx : Addr} {fs : List (PySem.Str × V)} (e : H a = some (.ins C dx fs)) : ∃ o od, InstAt s.heap a o C od := by
  obtain ⟨m, look, _⟩ := ins_get I.hok e
  obtain ⟨od, at_, _⟩ := look.look
  exact ⟨_, od, at_⟩

/-! ### len -/
def rLenOwn (C : Addr) (sp : Sp) : List V → Hp → VK → Prop := fun xs H Q => ∃ (p dx : Addr) (fs : List (PySem.Str × V)), xs = [V.ref p] ∧ H p = some (.ins C dx fs) ∧
  sp [V.ref p] H (fun v H' => ∃ n : Int, v = .int n ∧ 0 ≤ n ∧ n < 2 ^ 63 ∧ Q (.int n) H') E0
theorem call_lenOwn (find : findIn X.K (.ref C) "__len__" = some (some (.ref f))) (isF : isFn X.K (.ref f) = true) (F : FnOk X.prog X.w X.K X.mg X.base CX k f fd ps sp) (hb : Binds X.K fd ps []) (hr : Room (k + 1) X.A) (hx : Passes CX X E0) :
    CallR X (.builtin "len") (rLenOwn C sp) := by
  intro pins s σ H xs us Q I r h
  obtain ⟨p, dx, fs, rfl, hp, run⟩ := h
  obtain ⟨o, od, at_⟩ := inst_at I hp
  rw [Vals.ref1 r]
  refine Calls.call_function_entry kind_len plain_len entry_len (args_len1 (.ref p)) ?_
  unfold Builtin.«len»
  refine wpAny_bind (m := oneArg "len" ⟨[Value.ref p], []⟩) (wpAny_pure ?_)
  refine wpAny_bind (m := callSpecial? (Value.ref p) "__len__") (special_fn I.kIn at_ find (beq_iff_eq.mp isF) ?_)
  refine wpAny_mono (run_sub (sub_one hr) F hb (fun pins H s e s' => hx pins σ H s e s') I (.cons (show L2.RelV (V.ref p) (Value.ref p) from rfl) .nil) run) (fun v s1 ⟨y, H1, I1, rel, n, ey, low, high, q⟩ => ?_) fun _ _ z => z
  subst ey
  obtain ⟨t, rfl⟩ := rel
  refine wpAny_bind (wpAny_holding (wpAny_pure (wpAny_bind (wpAny_letGo ?_))))
  refine wp_if_neg (by omega) ?_
  try refine wpAny_bind (wpAny_pure ?_)
  refine wp_if_neg (by omega) ?_
  try refine wpAny_bind (wpAny_pure ?_)
  unfold retInt
  exact wpAny_bind (wpAny_mkInt (wpAny_pure ⟨_, rfl, ⟨.int n, H1, I1.tok _, ⟨_, rfl⟩, q⟩⟩))

/-! ### != -/
/-- a class with an own == and the built-in != -/
structure NeTxt (K : PySem.W.Frag) (C f : Addr) : Prop where
  eq : findIn K (.ref C) "__eq__" = some (some (.ref f))
  fn : isFn K (.ref f) = true
  ne : findIn K (.ref C) "__ne__" = some (some (.builtin "object.__ne__"))
  ob : mroIn K C (.type "object") = some true
def rNeOwn (C : Addr) (sp : Sp) : R2 := fun x y H Q => ∃ (p dp : Addr) (fp : List (PySem.Str × V)) (q dq : Addr) (fq : List (PySem.Str × V)), x = .ref p ∧ y = .ref q ∧ H p = some (.ins C dp fp) ∧ H q = some (.ins C dq fq) ∧
  sp [.ref p, .ref q] H (fun v H' => ∃ b : Bool, v = .bl b ∧ Q (.bl (!b)) H') E0
theorem bound_ne {M : Model} {B : Value → Shared → Prop} {K : PySem.W.Frag} {x : Addr} {o : Obj} {od : Option Obj} {args : List Value} {R : Option Value → Shared → Prop} (T : NeTxt K C f) (inK : K.In s.heap) (at_ : InstAt s.heap x o C od)
    (run : wpAny M A (call (.builtin "object.__ne__") (.ref x :: args)) (fun v => R (some v)) B s) : wpAny M A (callSpecialIfBound? (.ref x) "__ne__" args) R B s := by
  have go : wpAny M A (call (.builtin "object.__ne__") ([Value.ref x] ++ args) >>= fun v => pure (some v)) R B s := wpAny_bind (wpAny_mono run (fun _ _ z => wpAny_pure z) fun _ _ z => z)
  unfold callSpecialIfBound? bindSpecialIfBound?
  refine wpAny_holding (wpAny_bind (wpAny_bind ?_))
  refine wpAny_bind (at_.type.here ((looks_findIn inK T.ne).here ?_))
  refine wpAny_bind (wpAny_askSetting (wpAny_ite ?_))
  split
  · exact wpAny_bind (wpAny_of_eq (PySem.F.cmp_object.ne.bind (.ref x)) (wpAny_pure go))
  · exact wpAny_tryCatch (wpAny_bind (wpAny_of_eq (PySem.F.cmp_object.ne.bind (.ref x)) (wpAny_pure go)))
theorem op_neOwn (T : NeTxt X.K C f) (F : FnOk X.prog X.w X.K X.mg X.base CX k f fd ps sp) (hb : Binds X.K fd ps []) (hr : Room (k + 1) X.A) (hx : Passes CX X E0) : OpR X (compareOp .NotEq) (rNeOwn C sp) := by
  intro pins s σ H x y v u R I rx ry h
  obtain ⟨p, dp, fp, q, dq, fq, rfl, rfl, hp, hq, run⟩ := h
  obtain rfl : v = Value.ref p := rx
  obtain rfl : u = Value.ref q := ry
  obtain ⟨o, od, at_⟩ := inst_at I hp
  obtain ⟨o2, od2, at2⟩ := inst_at I hq
  have low1 : X.A.in1.units < cLine := hr.in1.units0
  have inner : wpAny (model X.prog X.w) X.A.in1 (Builtin.«object.__ne__» ⟨[.ref p, .ref q], []⟩) (fun fin s' => ∃ b H', fin = .done (.ret (.bool (!b))) ∧ Inv X pins σ H' s' ∧ R (.bl (!b)) H') X.xe s := by
    unfold Builtin.«object.__ne__»
    refine wpAny_bind (m := slotArgs "__ne__" 1 _) (wpAny_pure ?_)
    refine wpAny_bind (m := cRoomFor _ _) (wpAny_cRoomFor low1 ?_)
    refine wpAny_bind (m := callSpecialIfBound? (.ref p) "__eq__" [.ref q]) (ifBound_K I.kIn at_ T.eq T.fn ?_)
    refine wpAny_mono (run_sub (sub_one hr) F hb (fun pins H s e s' => hx pins σ H s e s') I (.cons (show L2.RelV (V.ref p) (Value.ref p) from rfl) (.cons (show L2.RelV (V.ref q) (Value.ref q) from rfl) .nil)) run) (fun v s1 ⟨y, H1, I1, rel, b, ey, z⟩ => ?_) fun _ _ z => z
    subst ey
    obtain rfl : v = Value.bool b := rel
    exact wpAny_bind (wpAny_truthy_bool (wpAny_pure ⟨b, H1, rfl, I1, z⟩))
  have call_ : wpAny (model X.prog X.w) X.A (call (.builtin "object.__ne__") [.ref p, .ref q]) (fun v s' => ∃ b H', v = .bool (!b) ∧ Inv X pins σ H' s' ∧ R (.bl (!b)) H') X.xe s := by
    refine wpAny_call (codeAny_call_builtin PySem.F.cmp_object.ne.plain PySem.F.cmpEntry_ne (check_slot PySem.F.cmpKind_ne PySem.F.cmpSplit_ne (at_.type.andThen (looks_mroIn I.kIn T.ob)) (PySem.F.cmpArgs_ne _ _) ?_))
    refine wpAny_mono inner (fun fin s' ⟨b, H', e, I', z⟩ => ?_) fun _ _ z => z
    subst e
    exact ⟨b, H', rfl, I', z⟩
  unfold compareOp richCompare
  simp only [oneThing_ref]
  refine wpAny_holding (wpAny_bind (wpAny_cRoomFor hr.units0 ?_))
  rw [cmpInfo_NotEq]
  dsimp only
  refine wpAny_bind (at_.type.here (wpAny_bind (at2.type.here ?_)))
  have same_ : ¬ (Value.ref C != Value.ref C) = true := by simp
  refine wp_if_neg same_ (wpAny_bind (wpAny_pure ?_))
  refine wp_if_neg (by decide) ?_
  try refine wpAny_bind (wpAny_pure ?_)
  refine wpAny_bind (m := tryCompare (.ref p) _ (.ref q)) ?_
  unfold tryCompare
  refine wpAny_bind (bound_ne T I.kIn at_ (wpAny_mono call_ (fun v s' ⟨b, H', e, I', z⟩ => ?_) fun _ _ z => z))
  subst e
  exact wpAny_pure (wpAny_pure ⟨.bl (!b), H', I', rfl, z⟩)

/-! ### where a try stands around -/
variable {Es : L2.St → XK} {x m : PySem.Str} {p pos apos : Pos} {e o : Expr} {es : List Expr} {ta : TE} {t : TA}
def tMakeS (C : Addr) (sp : Sp) (Es : L2.St → XK) (t : TA) : TE := fun σ H Q => tMake C sp [] (Es σ) t σ H Q
theorem made_run (M : Mk X.K C f) (F : FnOk X.prog X.w X.K X.mg X.base CX k f fd ps sp) (hr : Room (k + 1) X.A) (hb : Binds X.K fd ps []) (hx : PassesAt CX X σ E) (I : Inv X pins σ H s) (r : Vals vs us)
    (h : ∀ x dx, H x = none → H dx = none → dx ≠ x → sp (.ref x :: (vs ++ [])) (upd (upd H dx (.own x)) x (.ins C dx [])) (fun v H2 => v = .non ∧ Q (.ref x) H2) E) : wpAny (model X.prog X.w) X.A (call (.ref C) us) (EP X pins σ Q) X.xe s := by
  have I2 := Inv.made (C := C) I
  have run := h (s.heap.objs.size + 1) s.heap.objs.size (I.hok.fresh (Nat.le_succ _)) (I.hok.fresh (Nat.le_refl _)) (Nat.ne_of_lt (Nat.lt_succ_self _))
  rw [List.append_nil] at run
  have rel : Vals (V.ref (s.heap.objs.size + 1) :: vs) (Value.ref (s.heap.objs.size + 1) :: us) := .cons (show L2.RelV (V.ref (s.heap.objs.size + 1)) (Value.ref (s.heap.objs.size + 1)) from rfl) r
  have bound := hb _ (Value.ref (s.heap.objs.size + 1) :: us) I2.kIn (by rw [List.append_nil, ← rel.length]; exact F.len _ _ _ _ run)
  rw [List.append_nil] at bound
  have ran := F.run _ X.stack _ _ ⟨Value.ref (s.heap.objs.size + 1) :: us, []⟩ _ _ _ E (hr.make C us []) (I2.env0.make C us []) bound rel run
  refine wpAny_call (make_map (f := f) I.kIn M.makes M.init (beq_iff_eq.mp M.fn) (codeAny_mono ran fun res s' z => ?_))
  match res, z with
  | .error err, z => exact hx pins _ _ err s' I2 z
  | .ok (.ret u), z =>
    obtain ⟨v, H', I3, rv, rfl, q⟩ := I2.after z
    exact ⟨rv, ⟨V.ref (s.heap.objs.size + 1), H', I3, rfl, q⟩⟩
theorem pe_makeS (M : Mk X.K C f) (F : FnOk X.prog X.w X.K X.mg X.base CX k f fd ps sp) (hr : Room (k + 1) X.A) (hg : Gl X x) (hm : X.mg x = some (.ref C)) (hb : Binds X.K fd ps []) (hx : ∀ σ, PassesAt CX X σ (Es σ)) (ha : PA X (e :: es) t)
    (nodebug : (x == ("__debug__" : PySem.Str)) = false := by decide) (first : starEach (e :: es) X.env = (false, eval e X.env) :: starEach es X.env := by rfl) (nost : (backTo pos (starEach es X.env)).any (·.1) = false := by rfl) :
    PE X (.Call (.Name x p) (e :: es) [] pos) (tMakeS C sp Es t) := by
  constructor
  intro pins s σ H Q I h
  refine wpAny_Call_Name_kw (ld_glob I hg hm ?_ nodebug)
  refine callWith_K (h₀ := X.base) I.ok.mod.kin M.kp ?_ first nost
  exact thn (ha.run pos pins s σ H _ I h) fun us s1 ⟨vs, H1, I1, r, q⟩ => ⟨I1.kIn, made_run M F hr hb (hx σ) I1 r q⟩
def tMethT (C : Addr) (m : PySem.Str) (sp : Sp) (Es : L2.St → XK) (ta : TE) (t : TA) : TE := fun σ H Q => tMeth C m sp [] (Es σ) ta t σ H Q
theorem pe_methT {pl : Sem Bool} (he : PE X o ta) (c : Cls X.K C) (hm : Meth X.K C m f) (F : FnOk X.prog X.w X.K X.mg X.base CX k f fd ps sp) (hr : Room k X.A) (hb : Binds X.K fd ps []) (hx : ∀ σ, PassesAt CX X σ (Es σ)) (ha : PA X (e :: es) t)
    (first : starEach (e :: es) X.env = (false, eval e X.env) :: starEach es X.env := by rfl) (nost : (backTo pos (starEach es X.env)).any (·.1) = false := by rfl)
    (text : eval (.Call (.Attribute o m apos) (e :: es) [] pos) X.env = (do
      let ov ← eval o X.env
      standAt apos.atName
      let (f, first) ← holding [ov] (getMethod ov m pl)
      callWith pos f first (backTo pos (starEach (e :: es) X.env)) (backToKw pos (keywordEach [] X.env))) := by rfl) :
    PE X (.Call (.Attribute o m apos) (e :: es) [] pos) (tMethT C m sp Es ta t) := by
  constructor
  intro pins s σ H Q I h
  refine methodCall_KW (pl := pl) ?_ text
  refine thn (he.run pins s σ H _ I h) fun u s1 ⟨y, H1, I1, rel, a, dx, fs, ey, at_, none_, q⟩ => ?_
  subst ey
  obtain rfl : u = Value.ref a := rel
  refine getmeth_ok I1 at_ c hm none_ ?_
  refine callWith_K (first := [Value.ref a]) (h₀ := X.base) I.ok.mod.kin hm.kp ?_ first nost
  refine thn (ha.run pos pins s1 σ H1 _ I1 q) fun us s2 ⟨vs, H2, I2, r, q2⟩ => ⟨I2.kIn, ?_⟩
  replace q2 : sp (V.ref a :: (vs ++ [])) H2 Q (Es σ) := q2
  rw [List.append_nil] at q2
  exact run_fnS (us := Value.ref a :: us) (vs := V.ref a :: vs) F hr hb (hx σ) I2 (.cons (show L2.RelV (V.ref a) (Value.ref a) from rfl) r) q2
end
end L2
end
section
/-! An own error whose __init__ calls its base's by super() with an f-string and keeps its place. -/
namespace PySem
namespace PlX
open PySem.W PySem.Calls PyProof.Rows PySem.HandSPX
/-! ### the text of __init__ -/
def args (p1 p2 : Pos) : Arguments := { posonlyargs := [], args := [{ arg := "self", annotation := none, pos := p1 }, { arg := "place", annotation := none, pos := p2 }], vararg := none, kwonlyargs := [], kw_defaults := [], kwarg := none, defaults := [] }
structure Ps where
  a : Pos
  b : Pos
  c : Pos
  d : Pos
  e : Pos
  f : Pos
  g : Pos
  h : Pos
  i : Pos
  j : Pos
  k : Pos
  l : Pos
  m : Pos
def say (msg : Str) (p : Ps) : Expr := .JoinedStr [.Constant (.str msg) 0 p.a, .FormattedValue (.Name "place" p.b) (-1) none p.c] p.d
def call (msg : Str) (p : Ps) : Expr := .Call (.Attribute (.Call (.Name "super" p.e) [] [] p.f) "__init__" p.g) [say msg p] [] p.h
def body (msg : Str) (p : Ps) : List Stmt := [.Expr (call msg p) p.i, .Assign [.Attribute (.Name "self" p.j) "place" p.k] (.Name "place" p.l) p.m]
/-- how the call is read -/
def Reads (msg : Str) (p : Ps) : Prop := ∀ env : Env, ∃ pl : Sem Bool, eval (call msg p) env = (do
  let ov ← attributeBase (.Call (.Name "super" p.e) [] [] p.f) "__init__" env (eval (.Call (.Name "super" p.e) [] [] p.f) env)
  standAt p.g.atName
  let (f, first) ← holding [ov] (getMethod ov "__init__" pl)
  callWith p.h f first (backTo p.h (starEach [say msg p] env)) [])
def scope : Scope := { kind := .function, names := [(PySem.Str.ofString "self", .local), (PySem.Str.ofString "place", .local), (PySem.Str.ofString "__class__", .free), (PySem.Str.ofString "super", .globalImplicit)], isGenerator := false, isCoroutine := false, more := [] }
theorem kSuper : List.lookup ("super" : Str) scope.names = some NameKind.globalImplicit := by decide +kernel
theorem kClass : List.lookup ("__class__" : Str) scope.names = some NameKind.free := by decide +kernel
theorem kSelf : List.lookup ("self" : Str) scope.names = some NameKind.local := by decide +kernel
theorem kPlace : List.lookup ("place" : Str) scope.names = some NameKind.local := by decide +kernel
/-- what the written part says of the class named nmC, at C, and of its __init__, at fI -/
structure Txt (P : Program) (K : Frag) (mg : Str → Option Value) (nmC : Str) (C fI : Addr) : Prop where
  gC : mg nmC = some (.ref C)
  cls : ∃ nm q N bs bm sn sub ab col dd k0 k1 k2 k3 k5, K.lookup C = some (excClassObj nm q C N bs bm true sn sub ab col dd k0 k1 k2 k3 k5 "ValueError.__new__") ∧ refsVE bm = true
  sa : findIn K (.ref C) "__setattr__" = some (some (.builtin "object.__setattr__"))
  ga : findIn K (.ref C) "__getattribute__" = some (some (.builtin "BaseException.__getattribute__"))
  gg : findIn K (.ref C) "__getattr__" = some none
  noN : findIn K (.ref C) "place" = some none
  iC : findIn K (.ref C) "__init__" = some (some (.ref fI))
  tC : typeIn K (.ref fI) = some (.type "function")
  kC : keepIn K (.ref C) = true
  exC : subIn K (.ref C) (.type "BaseException") = some true
  veC : subIn K (.ref C) (.type "ValueError") = some true
  tyC : typeIn K (.ref C) = some (.type "type")
  hdC : hasDictIn K C = true
  te : exmOne K (.ref C) (.ref C) = some true
  sup : ks_superIn K C C "__init__" = some (some (.builtin "ValueError.__init__"))
  opq : nsIn K cStatics "thirdparty.any" = some none
  exI : excInitIn K C veTail "ValueError.__new__" = true
  self : mroIn K C (.ref C) = some true
  sups : mg "super" = none
  top : (P.main.scope.names.lookup ("super" : Str)).isSome = false
  fn : ∃ (oc : Value) (od : Option Addr) (doc pm : Value) (an : Option Addr) (cda cc : Addr) (ct : Value) (osl : Array (Option Value)) (p1 p2 : Pos) (qual msg : Str) (ps : Ps) (ccl : Value) (cdd : Option Addr) (vs : Array Value) (ccs : Array (Option Value)) (file : Str) (tf : Tok) (cl : Value) (cld : Option Addr) (csl : Array (Option Value)),
    K.lookup fI = some ⟨oc, od, .func (ksFn "__init__" qual (args p1 p2) (body msg ps) scope .none .none doc pm an (.ref cda) ct cc), osl⟩ ∧ codeIn K (.ref cda) qual = true ∧ msg.length ≤ 100 ∧ Reads msg ps ∧
    K.lookup cda = some ⟨ccl, cdd, .fields vs, ccs⟩ ∧ vs[2]? = some (.str file tf) ∧ ((P.main.file : Str) == file) = true ∧ K.lookup cc = some ⟨cl, cld, .cell (some (.ref C)), csl⟩
/-- what stands as a place -/
def PlaceV (v : Value) : Prop := v = .none ∨ ∃ i t, v = .int i t ∧ i.natAbs.log2 < 1920
structure Made (h h' : Heap) (e C d : Addr) (v : Value) : Prop where
  keep : ∀ b o, h.get? b = some o → h'.get? b = some o
  new : h.objs.size ≤ e
  obj : ∃ oe vs, h'.get? e = some oe ∧ oe.cls = .ref C ∧ oe.dict = some d ∧ oe.data = .fields vs ∧ vs[1]? = some .none
  dbig : h.objs.size ≤ d
  dne : d ≠ e
  ns : h'.Ns1 d (fun y => if y = "place" then some v else none)
/-- what __init__ leaves of a fresh exception at x -/
structure Left (h h' : Heap) (x C dx t1 : Addr) (v : Value) : Prop where
  keep : ∀ b o, b ≠ x → h.get? b = some o → h'.get? b = some o
  obj : h'.get? x = some { cls := .ref C, dict := some dx, data := .fields #[.ref t1, .none, .none, .none, .bool false, .none] }
  dbig : h.objs.size ≤ dx
  dne : dx ≠ x
  ns : h'.Ns1 dx (fun y => if y = "place" then some v else none)
theorem ldN {M : Model} {A : Around} {E : Value → Shared → Prop} {s : Shared} {env : Env} {m : Str → Option Value} {x : Str} {pos : Pos} {v : Value} {Q : Value → Shared → Prop} (hn : s.heap.Ns env.locals m) (hv : m x = some v) (h : Q v s)
    (hk : env.scope.kind = .function := by rfl) (hl : env.kindOf x = some .local := by rfl) (hd : (x == ("__debug__" : Str)) = false := by decide) :
    wpAny M A (eval (.Name x pos) env) Q E s := wpAny_Name (wpAny_loadName_local hk hl hn hv h) hd
section
variable {prog : Program} {w : World} {A : Around} {E : Value → Shared → Prop} {R : Result → Shared → Prop} {s : Shared} {K : Frag} {mg : Str → Option Value} {C fI : Addr} {nmC : Str}
theorem say_runs {env : Env} {L : Addr} {m : Str → Option Value} {msg : Str} {p : Ps} {v : Value} {Q : Value → Shared → Prop} (hL : env.locals = L) (hn : s.heap.Ns L m) (hv : m "place" = some v) (pv : PlaceV v) (hz : msg.length ≤ 100)
    (hk : env.scope.kind = .function) (hl : env.kindOf "place" = some .local)
    (h : ∀ x t, Q x { s with toks := t }) : wpAny (model prog w) A (eval (say msg p) env) Q E s := by
  subst hL
  unfold say
  refine wpAny_JoinedStr ?_
  have e0 : evalEach [Expr.Constant (.str msg) 0 p.a, Expr.FormattedValue (.Name "place" p.b) (-1) none p.c] env = [eval (Expr.Constant (.str msg) 0 p.a) env, eval (Expr.FormattedValue (.Name "place" p.b) (-1) none p.c) env] := by first | rfl | simp [evalEach]
  rw [e0]
  have le0 : (Str.empty ++ msg).length ≤ 100 := by
    rw [Str.length_append]
    show 0 + msg.length ≤ 100
    omega
  refine wpAny_Constant_str ⟨msg, _, rfl, Nat.le_trans le0 (by rw [sizeLine_eq]; omega), ?_⟩
  refine wpAny_FormattedValue_plain (ldN hn hv ?_ hk hl (by decide))
  have fin : ∀ (y : Str) (t t' : Nat), y.length ≤ 2000 → ∃ y' t2, (Value.str y t) = .str y' t2 ∧ ((Str.empty ++ msg) ++ y').length ≤ sizeLine ∧
      Joins (model prog w) A E [] ((Str.empty ++ msg) ++ y') (fun out s₁ => out.length ≤ sizeLine ∧ Q (.str out s₁.toks) { s₁ with toks := s₁.toks + 1 }) { s with toks := t' } := fun y t t' hy => by
    have lz : ((Str.empty ++ msg) ++ y).length ≤ sizeLine := by
      rw [Str.length_append, sizeLine_eq]
      omega
    exact ⟨y, t, rfl, lz, lz, h _ _⟩
  rcases pv with rfl | ⟨i, t, rfl, hi⟩
  · exact wpAny_formatField_none (fin "None" _ _ (by decide))
  · exact wpAny_formatField_int hi (fin _ _ _ (Nat.le_trans (int_text_len_1921 hi) (by omega)))
theorem init_runs (T : Txt prog K mg nmC C fI) {x t0 : Addr} {v : Value} (pv : PlaceV v) (M : L2.Mod K mg s.heap) (hx : s.heap.get? x = some (excO C t0)) (hnx : K.lookup x = none) (hroom : A.depth < recursionLimit)
    (hq : ∀ h' tk dx t1, Left s.heap h' x C dx t1 v → R (.ok (.ret .none)) { s with heap := h', toks := tk }) :
    codeAny (model prog w) A (.call (.ref fI) ⟨[.ref x, v], []⟩) R s := by
  obtain ⟨oc, od, doc, pm, an, cda, cc, ct, osl, p1, p2, qual, msg, ps, ccl, cdd, vs, ccs, file, tf, cl, cld, csl, ho, hcd, hmsg, hrd, hcda, hvs, hfile, hcc⟩ := T.fn
  have X := M.kin
  refine ks_codeAny_call_defAt (fd := ksFn "__init__" qual (args p1 p2) (body msg ps) scope .none .none doc pm an (.ref cda) ct cc) (body := body msg ps) (binds := [("self", .ref x), ("place", v)]) hroom (X _ _ ho) rfl M.nolimit (codeRec_of X hcd) rfl
    (BindsTo.of_eq (by first | rfl | with_unfolding_all rfl)) (show ∀ y ∈ scope.names, y.2 ≠ .cell by decide +kernel)
    (fun y hy => by
      rcases List.mem_cons.mp hy with rfl | hy
      · exact kSelf
      · rcases List.mem_cons.mp hy with rfl | hy
        · exact kPlace
        · cases hy) (fun h₁ hns₁ k₁ => ?_) rfl rfl rfl
  obtain ⟨hp, g, d, tk, os⟩ := s
  have hxL : hp.objs.size ≠ x := Nat.ne_of_gt (Heap.lt_size hx)
  have lS : List.lookup ("self" : Str) ([("self", .ref x), ("place", v)] : List (Str × Value)).reverse = some (.ref x) := by first | rfl | with_unfolding_all rfl | kernel_rfl
  have lP : List.lookup ("place" : Str) ([("self", .ref x), ("place", v)] : List (Str × Value)).reverse = some v := by first | rfl | with_unfolding_all rfl | kernel_rfl
  have X₁ : K.In h₁ := X.keeps k₁
  have hx₁ := k₁ _ _ hx
  have G₁ := M.glob.keeps k₁
  obtain ⟨mb, B0, hB⟩ := M.blt
  have B₁ := B0.keeps k₁
  obtain ⟨nm, q, N, bs, bm, sn, sub, ab, col, dd, k0, k1, k2, k3, k5, hC, hbm⟩ := T.cls
  have hcl : clsIn K C = some { name := nm, bases := bs, mro := .ref C :: bm, ns := N, qualname := q, hasDict := true, slotNames := sn, subclasses := sub, abstract := ab, collection := col, hasDel := false } := by unfold clsIn; rw [hC] <;> rfl
  show PySem.wpAt _ _ _ (execs (_ :: _) _) _ _ _
  obtain ⟨pl, hpl⟩ := hrd (ksEnv qual scope hp.objs.size fI (.ref cda) cc)
  refine ks_wpAt_execs_cons (ks_wpAt_Expr_any (ks_wpAt_MethodCall (pl := pl) ?_ hpl))
  refine ks_wpAt_super_base (env := ksEnv qual scope hp.objs.size fI (.ref cda) cc) kSuper kClass (by decide) rfl (X₁ _ _ ho) rfl rfl rfl (X₁ _ _ hcda) rfl hvs hfile T.top ?_
  have hC₁ := X₁ _ _ hC
  refine ks_loadName_global rfl kSuper (loadGlobal_builtin (env := ksEnv qual scope hp.objs.size fI (.ref cda) cc) G₁ T.sups B₁ ((hB _ (by decide +kernel)).trans PyProof.Rows.Boot.«super») ⟨rfl, ?_⟩)
  refine wpAny_loadName_free (c := cc) rfl kClass rfl ⟨_, X₁ _ _ hcc, rfl⟩ ?_
  refine wpAny_loadName_local rfl kSelf hns₁ lS ?_
  refine ks_wpAny_isType_cls hC₁ rfl ⟨rfl, ?_⟩
  refine ks_wpAny_call_super hC₁ rfl hx₁ rfl (fun c e => by cases e) (looks_mroIn X₁ T.self) (fun h₂ e₂ k₂ => ?_)
  have X0 : K.In (hideAll hp [x]) := fun a o e => hideAll_get [x] (X a o e) fun z => by
    rw [List.mem_singleton.mp z] at e
    rw [show K.lookup x = some o from e] at hnx
    cases hnx
  have F1 : Fr (hideAll hp [x]) hp.objs.size h₁ _ := ⟨hns₁, fun b o e => k₁ b o (of_hideAll _ e), Nat.le_of_eq (hideAll_size _ _)⟩
  have N1 : News (hideAll hp [x]) hp.objs.size h₁ [(x, excO C t0)] := fun p hm => by
    rw [List.mem_singleton.mp hm]
    exact ⟨hx₁, Ne.symm hxL, hideAll_none _ (List.mem_singleton.mpr rfl)⟩
  obtain ⟨F2, N2, lt2⟩ := ks_newsPush (s := ⟨h₁, g, d, tk + 2, os⟩) F1 N1 rfl e₂ k₂
  refine kxs_method kxs_ValueError F2 X0 N2 (List.mem_cons_self ..) (odx := none) ⟨k₂ _ _ hx₁, rfl, rfl, trivial⟩ T.opq T.sup T.veC (by decide +kernel) (fun u h₃ F3 N3 lt3 => ?_)
  refine kxs_callWith1 N3 (List.mem_cons_self ..) ?_
  refine args_cons (say_runs (L := hp.objs.size) rfl F3.ns lP pv hmsg rfl kPlace fun y t => args_nil ?_)
  refine ⟨kxs_at N3 (List.mem_cons_self ..), ?_⟩
  have ltx : x < h₁.objs.size := lt2 (x, excO C t0) (List.mem_singleton.mpr rfl)
  have ltu : x < u := lt3 (x, excO C t0) (.tail _ (List.mem_singleton.mpr rfl))
  have U : UpdF x (excObj C t0 none .none) [(u, kxs_mw "ValueError.__init__" x), (h₁.objs.size, ks_superObj C x C), (x, excO C t0)] (fun o => [(u, kxs_mw "ValueError.__init__" x), (h₁.objs.size, ks_superObj C x C), (x, o)]) :=
    .tail (Nat.ne_of_gt ltu) (.tail (Nat.ne_of_gt ltx) (.head fun p hp => nomatch hp))
  refine kxs_call F3 X0 N3 F.excBase_ValueError T.exI (List.mem_cons_self ..) U (show 1 ≤ sizeLine by rw [sizeLine_eq]; omega) (fun t1 h₄ F4 N4 lt4 => ?_)
  have hx₄ : h₄.get? x = some (excObj C t1 none .none) := (N4 (x, excObj C t1 none .none) (.tail _ (.tail _ (.tail _ (List.mem_singleton.mpr rfl))))).1
  have X₄ : K.In h₄ := X0.keeps F4.keep
  show PySem.wpAt _ _ _ (execs (_ :: _) _) _ _ _
  refine ks_wpAt_execs_cons (ks_wpAt_Assign_Attr (wpAt_of_wpAny ?_))
  have n4 : h₄.Ns (ksEnv qual scope hp.objs.size fI (.ref cda) cc).locals (fun y => List.lookup y ([("self", .ref x), ("place", v)] : List (Str × Value)).reverse) := F4.ns
  show wpAny _ _ (eval (.Name "place" ps.l) (ksEnv qual scope hp.objs.size fI (.ref cda) cc)) _ _ ⟨h₄, g, d, _, os⟩
  refine ldN n4 lP ?_ rfl kPlace (by decide)
  show wpAny _ _ (eval (.Name "self" ps.j) (ksEnv qual scope hp.objs.size fI (.ref cda) cc)) _ _ ⟨h₄, g, d, _, os⟩
  refine ldN n4 lS ?_ rfl kSelf (by decide)
  refine set_plain X₄ (ox := excObj C t1 none .none) (od := none) ⟨hx₄, rfl, rfl, trivial⟩ T.sa ?_
  refine exc_osa X₄ hx₄ hcl (show refsVE (.ref C :: bm) = true from hbm) rfl T.noN (fun h₅ tk₅ dx k₅ dn dne hx₅ hn₅ => ?_)
  show PySem.wpAt _ _ _ (execs [] _) _ _ _
  refine wpAt_of_wpAny (wpAny_execs_nil (hq h₅ tk₅ dx t1 ⟨fun b o hb e => ?_, hx₅, ?_, dne, hn₅⟩))
  · exact k₅ b o hb (F4.keep b o (hideAll_get [x] e fun z => hb (List.mem_singleton.mp z)))
  · exact Nat.le_of_lt (Nat.lt_of_lt_of_le F4.ns.lt dn)
theorem made_runs (T : Txt prog K mg nmC C fI) {v : Value} (pv : PlaceV v) (M : L2.Mod K mg s.heap) (hroom : A.depth + 1 < recursionLimit)
    (hq : ∀ h' tk e d, Made s.heap h' e C d v → R (.ok (.ret (.ref e))) { s with heap := h', toks := tk }) :
    codeAny (model prog w) A (.call (.ref C) ⟨[v], []⟩) R s := by
  obtain ⟨nm, q, N, bs, bm, sn, sub, ab, col, dd, k0, k1, k2, k3, k5, hC, hbm⟩ := T.cls
  obtain ⟨hp, g, dr, tk, os⟩ := s
  have X := M.kin
  have k : ∀ b o, hp.get? b = some o → ((hp.push (kdv_tup [v])).push (excO C hp.objs.size)).get? b = some o := fun b o e => Heap.get?_push_of_some _ (Heap.get?_push_of_some _ e)
  have hget : ((hp.push (kdv_tup [v])).push (excO C hp.objs.size)).get? (hp.objs.size + 1) = some (excO C hp.objs.size) := by heap_get
  have hnx : K.lookup (hp.objs.size + 1) = none := by
    cases e : K.lookup (hp.objs.size + 1) with
    | none => rfl
    | some o => exact absurd (Nat.lt_of_succ_lt (Heap.lt_size (X _ _ e))) (Nat.lt_irrefl _)
  have M2 : L2.Mod K mg ((hp.push (kdv_tup [v])).push (excO C hp.objs.size)) := ⟨X.keeps k, M.glob.keeps k, M.blt.imp fun mb z => ⟨z.1.keeps k, z.2⟩, M.nolimit.keeps k⟩
  refine call_own F.excBase_ValueError (fun Y => refsVE_contains Y bm hbm) (X _ _ hC) (looks_findIn X T.iC) (fun self => bind_fn X self T.tC) (show 1 ≤ sizeLine by rw [sizeLine_eq]; omega) ?_
  refine init_runs (s := ⟨(hp.push (kdv_tup [v])).push (excO C hp.objs.size), g, dr, tk, os⟩) T pv M2 hget hnx hroom fun h' tk' dx t1 L => ?_
  refine ⟨rfl, hq h' tk' (hp.objs.size + 1) dx ⟨fun b o e => L.keep b o (Nat.ne_of_lt (Nat.lt_succ_of_lt (Heap.lt_size e))) (k b o e), Nat.le_succ _, ⟨_, _, L.obj, rfl, rfl, rfl, rfl⟩, Nat.le_trans ?_ L.dbig, L.dne, L.ns⟩⟩
  show hp.objs.size ≤ ((hp.push (kdv_tup [v])).push (excO C hp.objs.size)).objs.size
  rw [Heap.size_push, Heap.size_push]
  omega
end
end PlX
end PySem
end
section
/-! The hand layer's words for errors that keep a place. -/
namespace L2
open PySem PySem.Spec PyProof.Rows
/-- the field that the error keeps, and no other -/
theorem place_fields {v : V} {u : Value} (r : RelV v u) (f : Str) : RelO ([(("place" : Str), v)].lookup f) (if f = "place" then some u else none) := by
  rcases Classical.em (f = "place") with rfl | h
  · rw [if_pos rfl]
    have z : [(("place" : Str), v)].lookup ("place" : Str) = some v := by simp [List.lookup]
    rw [z]; exact r
  · rw [if_neg h]
    have z0 : (f == ("place" : Str)) = false := by simpa using h
    have z : [(("place" : Str), v)].lookup f = none := by simp [List.lookup, z0]
    rw [z]; exact trivial
/-- what may be a place -/
def PlaceW (v : V) : Prop := v = .non ∨ ∃ i : Int, v = .int i ∧ i.natAbs.log2 < 1920
theorem placeW_val {v : V} {u : Value} (h : PlaceW v) (r : RelV v u) : PySem.PlX.PlaceV u := by
  rcases h with rfl | ⟨i, rfl, hi⟩
  · obtain rfl : u = .none := r
    exact .inl rfl
  · obtain ⟨t, rfl⟩ := r
    exact .inr ⟨i, t, rfl, hi⟩
section
variable {X : Cx} {C fI : Addr} {nmC : Str}
/-- C(e) -/
def tMkPl (C : Addr) (ta : TA) : St → Hp → XK → Prop := fun σ H Q => ta σ H fun vs H1 => ∃ v, vs = [v] ∧ PlaceW v ∧ ∀ d, H1 d = none → Q (.ref C) (some d) (upd H1 d (.xd [(("place" : Str), v)]))
theorem pmk_pl {a : Expr} {ta : TA} {p pos : Pos} {k : Nat} (T : PySem.PlX.Txt X.prog X.K X.mg nmC C fI) (hr : Room (k + 1) X.A) (ha : PA X [a] ta) (hg : Gl X nmC) (hdb : (nmC == ("__debug__" : Str)) = false := by decide)
    (he : starEach (a :: []) X.env = (false, eval a X.env) :: starEach [] X.env := by rfl) (hpl : (backTo pos (starEach [] X.env)).any (·.1) = false := by rfl) :
    PMk X (.Call (.Name nmC p) [a] [] pos) (tMkPl C ta) := fun pins s σ H Q I h => by
  refine wpAny_Call_Name_kw (ld_glob I hg T.gC ?_ hdb)
  refine PySem.W.callWith_K (h₀ := X.base) I.ok.mod.kin T.kC (thn (ha.run pos pins s σ H _ I h) fun us s1 hh => ?_) he hpl
  obtain ⟨vs, H1, I1, r1, v, ev, hv, q1⟩ := hh
  subst ev
  refine ⟨I1.kIn, ?_⟩
  cases r1 with
  | @cons _ u0 _ us' rv rn =>
    cases rn
    have M : Mod X.K X.mg s1.heap := ⟨I1.kIn, I1.ok.mod.glob.keeps I1.bk, I1.ok.mod.blt.imp fun mb z => ⟨z.1.keeps I1.bk, z.2⟩, I1.nolimit⟩
    show wpAny _ _ (call (.ref C) [u0]) _ _ _
    obtain ⟨hp, g, dr, tk, os⟩ := s1
    refine wpAny_call (PySem.PlX.made_runs T (placeW_val hv rv) M (by have := hr.dp; omega) fun h' tk' e d Z => ?_)
    show MkP X pins σ Q (.ref e) ⟨h', g, dr, tk', os⟩
    obtain ⟨oe, fv, hoe, hc, hd, hdat, hnil⟩ := Z.obj
    obtain ⟨G, same, gone⟩ := restrict h' fun b => decide (b ≠ e)
    have gs : ∀ b, b ≠ e → G.get? b = h'.get? b := fun b hb => same b (decide_eq_true hb)
    have ge : G.get? e = none := gone e (decide_eq_false fun z => z rfl)
    have keep : ∀ b o, hp.get? b = some o → G.get? b = some o := fun b o q => by
      rw [gs b (Nat.ne_of_lt (Nat.lt_of_lt_of_le (Heap.lt_size q) Z.new))]
      exact Z.keep b o q
    have dict : ObjOk X.prog X.w (upd H1 d (.xd [(("place" : Str), v)])) G d (.xd [(("place" : Str), v)]) :=
      ⟨_, Z.ns.at (fun o q => (gs d Z.dne).trans q), fun f => place_fields rv f⟩
    have J : Inv X pins σ (upd H1 d (.xd [(("place" : Str), v)])) ⟨G, g, dr, tk', os⟩ := I1.laid (t' := tk') keep Z.dbig dict
    have ne : (upd H1 d (.xd [(("place" : Str), v)])) e = none := by
      rw [upd_ne (Ne.symm Z.dne)]; exact I1.hok.fresh Z.new
    refine ⟨e, oe, fv, ⟨G, g, dr, tk', os⟩, _, .ref C, some d, rfl, J, fun b o q => ?_, ge, hoe, ⟨hc, hd⟩, hdat, hnil, ne, rfl, I1.bare, raises_own T.exC T.tyC, q1 d (I1.hok.fresh Z.dbig)⟩
    have nb : b ≠ e := fun z => by
      rw [z] at q
      rw [show G.get? e = some o from q] at ge
      cases ge
    exact (gs b nb).symm.trans q
end
theorem xfc_of {P : Program} {K : PySem.W.Frag} {mg : Str → Option Value} {nmC : Str} {C fI : Addr} (T : PySem.PlX.Txt P K mg nmC C fI) : XfC K C := ⟨T.ga, T.gg, T.exC, T.hdC⟩
end L2
end
section
/-! The same rules with the written part named: for a comprehension's block. -/
namespace L2
open PySem PySem.Spec PyProof.Rows
section
variable {X : Cx} {K : PySem.W.Frag}
theorem ix_tupK (hK : X.K = K) : IxR X (rIxT K) := hK ▸ ix_tup
theorem ix_listK (hK : X.K = K) : IxR X (rIxL K) := hK ▸ ix_list
theorem pt_tru {a : Expr} {ta : TE} (hK : X.K = K) (ha : PE X a ta) (he : ∀ whole, isTrue a X.env whole = (do let v ← whole; standAt a.pos; holding [v] (truthy v))) : PT X a (tTru K ta) := by
  subst hK
  exact pt_truth ha he
theorem pi_listK {tg l : Expr} {tl : TE} (hK : X.K = K) (hl : PE X l tl) : PI X tg l (iList K tl) := by
  subst hK
  exact pi_list hl
theorem pi_tupK {tg l : Expr} {tl : TE} (hK : X.K = K) (hl : PE X l tl) : PI X tg l (iTup K tl) := by
  subst hK
  exact pi_tup hl
theorem pg_tupK {es : List Expr} {k : Nat} {t : TGs} {n : Nat} {pos : Pos} (hK : X.K = K) (hc : X.calm = true) (h : PGs X es t) (hn : (assignEach es X.env).length = n := by rfl) (hst : (assignEach es X.env).findIdx? (·.1) = none := by rfl) : PG X (.Tuple es k pos) (gTup K n t) := by
  subst hK
  exact pg_tup hc h hn hst
theorem op_inQK {P : Program} {w : World} (hP : X.prog = P) (hw : X.w = w) : OpR X (compareOp .In) (MX.rInQ P w false) := by
  subst hP hw
  exact MX.op_inQ
theorem op_notInQK {P : Program} {w : World} (hP : X.prog = P) (hw : X.w = w) : OpR X (compareOp .NotIn) (MX.rInQ P w true) := by
  subst hP hw
  exact MX.op_notInQ
theorem op_in_seqK (hK : X.K = K) : OpR X (compareOp .In) (rIn K false) := by
  subst hK
  exact op_in_seq
theorem op_notIn_seqK (hK : X.K = K) : OpR X (compareOp .NotIn) (rIn K true) := by
  subst hK
  exact op_notIn_seq
end
end L2
end
section
/-! Own instances' truth and +, math.lcm, xs[i] op= e. -/
namespace L2
open PySem PySem.Spec PyProof.Rows PySem.W
/-- a __bool__ that always says the same -/
def spSays (b : Bool) : Sp := fun vs H Q _ => (∃ p : Addr, vs = [V.ref p]) ∧ Q (.bl b) H
def SaysB (P : Program) (w : World) (K : PySem.W.Frag) (mg : PySem.Str → Option Value) (base : Heap) (C : Addr) (b : Bool) : Prop :=
  ∃ (f : Addr) (fd : FuncData), findIn K (.ref C) "__bool__" = some (some (.ref f)) ∧ isFn K (.ref f) = true ∧ FnOk P w K mg base CX0 1 f fd ["self"] (spSays b) ∧ Binds K fd ["self"] []
section
variable {X : Cx} {pins : List (Addr × Obj)} {σ : L2.St} {H : Hp} {s : Shared} {A : Around}
/-- instances of classes of which B tells what they are as truth -/
def rSays (B : Addr → Bool → Prop) : V → Hp → (Bool → Hp → Prop) → Prop := fun x H Q => ∃ (p C dx : Addr) (fs : List (PySem.Str × V)) (b : Bool), x = .ref p ∧ H p = some (.ins C dx fs) ∧ B C b ∧ Q b H
theorem truth_in {B : Addr → Bool → Prop} {x : V} {v : Value} {Q : Bool → Hp → Prop} (hB : ∀ C b, B C b → SaysB X.prog X.w X.K X.mg X.base C b) (sb : Sub X 1 A) (hx : Passes CX0 X E0) (I : Inv X pins σ H s) (rx : RelV x v) (h : rSays B x H Q) :
    wpAny (model X.prog X.w) A (truthy v) (TP X pins σ Q) X.xe s := by
  obtain ⟨p, C, dx, fs, b, rfl, hp, says, q⟩ := h
  obtain rfl : v = Value.ref p := rx
  obtain ⟨f, fd, find, isf, F, hb⟩ := hB C b says
  obtain ⟨o, od, at_⟩ := inst_at I hp
  obtain ⟨m, fr⟩ := I.fr
  refine truthy_K fr I.ok.mod.kin at_ find isf ?_
  refine wpAny_mono (run_sub (Q := fun v H' => v = .bl b ∧ Q b H') sb F hb (fun pins H s e s' => hx pins σ H s e s') I (.cons (show L2.RelV (V.ref p) (Value.ref p) from rfl) .nil) ⟨⟨p, rfl⟩, rfl, q⟩) (fun v s1 ⟨y, H1, I1, rel, ey, z⟩ => ?_) fun _ _ z => z
  subst ey
  obtain rfl : v = Value.bool b := rel
  exact ⟨H1, I1, z⟩
theorem tru_says {B : Addr → Bool → Prop} (hB : ∀ C b, B C b → SaysB X.prog X.w X.K X.mg X.base C b) (hr : Room 1 X.A) (hx : Passes CX0 X E0) : TruR X (rSays B) :=
  fun pins s σ H x v Q I rx h => truth_in hB ⟨hr, rfl⟩ hx I rx h
def tSays (B : Addr → Bool → Prop) (ta : TE) : TT := fun σ H Q => ta σ H fun x H' => rSays B x H' Q
theorem pt_says {a : Expr} {ta : TE} {B : Addr → Bool → Prop} (hB : ∀ C b, B C b → SaysB X.prog X.w X.K X.mg X.base C b) (hr : Room 1 X.A) (hx : Passes CX0 X E0) (ha : PE X a ta) (he : ∀ whole, isTrue a X.env whole = (do let v ← whole; standAt a.pos; holding [v] (truthy v)) := by intro _; rfl) :
    PT X a (tSays B ta) := by
  refine ⟨fun pins s σ H Q I h => isTrue_plain (thn (ha.run pins s σ H _ I h) fun v s1 z => ?_) (he _)⟩
  obtain ⟨x, H1, I1, r1, q1⟩ := z
  exact tru_says hB hr hx pins s1 σ H1 x v Q I1 r1 q1
/-- bool(o) -/
def rBoolOf (B : Addr → Bool → Prop) : List V → Hp → VK → Prop := fun xs H Q => ∃ x : V, xs = [x] ∧ rSays B x H fun b H' => Q (.bl b) H'
theorem new_bool {prog : Program} {w : World} {x : Value} : MeetsIn prog w (Builtin.«bool.__new__» ⟨[.type "bool", x], []⟩) (fun A R s => wpAny (model prog w) A.in1 (truthy x) (fun b s' => R (.ok (.ret (.bool b))) s') (fun e s' => R (.error e) s') s) := by
  intro A R s h
  unfold Builtin.«bool.__new__»
  refine wpAny_bind (m := isType (.type "bool")) (wpAny_of_eq (a := true) rfl ?_)
  rw [if_neg (show ¬ (!true) = true by decide)]
  refine wpAny_bind (wpAny_of_eq F.conv_sub_bool ?_)
  rw [if_neg (show ¬ (!true) = true by decide)]
  refine wpAny_bind (m := someArgs "bool" 0 1 _) (wpAny_of_eq (a := [x]) rfl ?_)
  dsimp only
  exact wpAny_bind (wpAny_mono h (fun b s' z => wpAny_pure z) fun _ _ z => z)
theorem call_boolOwn {B : Addr → Bool → Prop} (hB : ∀ C b, B C b → SaysB X.prog X.w X.K X.mg X.base C b) (hr : Room 3 X.A) (hx : Passes CX0 X E0) : CallR X (.type "bool") (rBoolOf B) := by
  intro pins s σ H xs us Q I r h
  obtain ⟨x, rfl, h⟩ := h
  match us, r with
  | [v], .cons rx .nil =>
    refine callType_newIn F.called_bool F.newNe_bool (F.typeCall_bool_1 v) (F.newCall_bool_1 v) (fun obj => F.args_object_init_2 obj v) F.entry_bool_new new_bool ?_
    refine wpAny_mono (truth_in hB ⟨hr.in1.in1, rfl⟩ hx I rx h) (fun b s' ⟨H', I', q⟩ => ?_) fun _ _ z => z
    exact ⟨PySem.typeIs_bool _ _, .bl b, H', I', rfl, q⟩
/-- lcm(a, b) -/
def rLcm : List V → Hp → VK → Prop := fun vs H Q => ∃ a b : Int, vs = [.int a, .int b] ∧ a.natAbs < 2 ^ 64 ∧ b.natAbs < 2 ^ 64 ∧ Q (.int ((Nat.lcm a.natAbs b.natAbs : Nat) : Int)) H
theorem cr_lcm : CallR X (.builtin "math.lcm") rLcm := by
  intro pins s σ H vs us Q I r h
  obtain ⟨a, b, rfl, ha, hb, q⟩ := h
  obtain ⟨t, u, rfl⟩ := Vals.int2 r
  exact PySem.W.mc_lcm ha hb fun _ => ⟨.int _, H, I.tok _, ⟨_, rfl⟩, q⟩
/-- xs[i] read for xs[i] op= e -/
def rAt0 (K : PySem.W.Frag) : V → V → Hp → VK → Prop := fun x y H Q => ∃ (p : Addr) (xs : List V) (i : Nat) (v : V), x = .ref p ∧ y = .int i ∧ SqL K H p xs ∧ xs[i]? = some v ∧ Q v H
theorem pget_list : PGet X (rAt0 X.K) := by
  intro pins s σ H o i ov iv Q I ro ri h
  obtain ⟨p, xs, k, v, rfl, rfl, hs, hv, q⟩ := h
  obtain rfl : ov = Value.ref p := ro
  obtain ⟨t, rfl⟩ := ri
  obtain ⟨its, r, pl, hz⟩ := I.list hs
  obtain ⟨u, hu, ru⟩ := r.get hv
  have lt : k < its.length := (List.getElem?_eq_some_iff.mp hu).1
  have l := r.length
  have l63 := line63
  exact getItem_listL pl.isList (Int.natCast_nonneg k) (by omega) (by rw [Int.toNat_natCast]; exact hu) ⟨v, H, I, ru, q⟩
/-- o + p of instances of one class with its own + -/
def rAddOwn (C : Addr) (sp : Sp) (E : XK) : R2 := fun x y H Q => ∃ (p dp : Addr) (fp : List (PySem.Str × V)) (q dq : Addr) (fq : List (PySem.Str × V)), x = .ref p ∧ y = .ref q ∧ H p = some (.ins C dp fp) ∧ H q = some (.ins C dq fq) ∧
  sp [.ref p, .ref q] H (fun v H' => ∃ r : Addr, v = .ref r ∧ Q v H') E
structure AddTxt (K : PySem.W.Frag) (C f : Addr) : Prop where
  self : selfFirst K C = true
  find : findIn K (.ref C) "__add__" = some (some (.ref f))
  fn : isFn K (.ref f) = true
theorem op_addOwn {CX : CXT} {k : Nat} {f C : Addr} {fd : FuncData} {ps : List PySem.Str} {sp : Sp} {E : XK} (T : AddTxt X.K C f) (F : FnOk X.prog X.w X.K X.mg X.base CX k f fd ps sp) (hb : Binds X.K fd ps []) (hr : Room k X.A) (hx : Passes CX X E) : OpR X (binaryOp .Add) (rAddOwn C sp E) := by
  intro pins s σ H x y v u Q I rx ry h
  obtain ⟨p, dp, fp, q, dq, fq, rfl, rfl, hp, hq, run⟩ := h
  obtain rfl : v = Value.ref p := rx
  obtain rfl : u = Value.ref q := ry
  obtain ⟨o, od, at_⟩ := inst_at I hp
  obtain ⟨o2, od2, at2⟩ := inst_at I hq
  obtain ⟨m, fr⟩ := I.fr
  refine binop_K (op := .Add) fr I.ok.mod.kin at_ at2.type T.self T.find T.fn ?_
  refine wpAny_mono (run_sub ⟨hr, rfl⟩ F hb (fun pins H s e s' => hx pins σ H s e s') I (.cons (show L2.RelV (V.ref p) (Value.ref p) from rfl) (.cons (show L2.RelV (V.ref q) (Value.ref q) from rfl) .nil)) run) (fun v s1 ⟨y, H1, I1, rel, r, ey, z⟩ => ?_) fun _ _ z => z
  subst ey
  obtain rfl : v = Value.ref r := rel
  exact ⟨.ref r, H1, I1, rfl, z⟩
end
end L2
end
section
set_option maxHeartbeats 1000000
/-! min of a list of tuples of ints. -/
namespace L2
open PySem PySem.Spec PyProof.Rows PySem.W
/-- what a walk that only makes objects of its own leaves -/
abbrev Keeps (h h' : Heap) : Prop := ∀ c o, h.get? c = some o → h'.get? c = some o
/-- ahead of a turn of min: the iterator I stands at k, the keeper S holds the best one so far, if there is one -/
structure MinAt (g h : Heap) (I S l : Addr) (k : Nat) (best : Option Value) : Prop where
  old : Keeps g h
  iter : h.IsListIter I l k
  held : ∃ c, h.get? S = some { cls := .type "list", dict := none, data := .seq (match best with | none => #[] | some b => #[b, b]) c, slots := #[] }
section
variable {prog : Program} {w : World} {A : Around} {E : Value → Shared → Prop} {s : Shared} {R : Result → Shared → Prop} {I S l : Addr} {its : Array Value} {bt : Nat → Nat → Bool}
theorem name_min : (toString "min" ++ toString ".loop" : String) = "min.loop" := by decide
theorem MinAt.step {g h h1 : Heap} {k k' : Nat} {b : Option Value} (m : MinAt g h I S l k b) (fI : g.get? I = none) (ne : S ≠ I) (sb : Heap.SameBut I h h1) (it : h1.IsListIter I l k') : MinAt g h1 I S l k' b :=
  have ⟨c, hS⟩ := m.held
  ⟨fun a o e => sb.extBut a o (fun z => by rw [z, fI] at e; cases e) (m.old a o e), it, c, sb.extBut S _ ne hS⟩
theorem MinAt.hold {g h : Heap} {k : Nat} {b : Option Value} {v : Value} (m : MinAt g h I S l k b) (fS : g.get? S = none) (ne : S ≠ I) : MinAt g (h.update S (Obj.mapSeq fun _ => #[v, v])) I S l k (some v) :=
  have ⟨c, hS⟩ := m.held
  ⟨fun a o e => (Heap.get?_update_other _ _ fun z => by rw [z, e] at fS; cases fS).trans (m.old a o e), m.iter.at fun o e => (Heap.get?_update_other _ _ ne).trans e, _, Heap.get?_update_self _ hS rfl⟩
/-- all turns behind the first one -/
theorem min_turns (calm : A.handled = none) (hl : s.heap.IsList l its) (fI : s.heap.get? I = none) (fS : s.heap.get? S = none) (ne : S ≠ I)
    (cmp : ∀ i j vi vj (t : Shared) (Q : Value → Shared → Prop) (E : Value → Shared → Prop), its[i]? = some vi → its[j]? = some vj → Keeps s.heap t.heap → Q (.bool (bt i j)) t → wpAny (model prog w) A.in1 (richCompare .Lt vi vj) Q E t)
    (fin : ∀ v h tk, its[argBest bt (its.size - 1)]? = some v → Keeps s.heap h → R (.ok (.ret v)) { s with heap := h, toks := tk }) (left : Nat) :
    ∀ (j : Nat) (h : Heap) (tk : Nat) (b : Value), its.size = j + 1 + left → MinAt s.heap h I S l (j + 1) (some b) → its[argBest bt j]? = some b → codeAny (model prog w) A (.builtin "min.loop" ⟨[.ref I, .none, .ref S], []⟩) R { s with heap := h, toks := tk } := by
  have lI : l ≠ I := fun z => by obtain ⟨o, e, _⟩ := hl; rw [z, fI] at e; cases e
  induction left with
  | zero =>
    intro j h tk b sz m hb
    obtain ⟨c, hS⟩ := m.held
    refine codeAny_builtin PySem.F.entry_min_loop ?_
    rw [Around.under_plainId PySem.F.plain_min_loop]
    refine wpAny_bind (m := seqItems? (.ref S)) (wpAny_seqItems hS rfl ?_)
    refine wpAny_bind (m := Sem.tryCatch (pyNext (.ref I)) _) (wpAny_tryCatch ?_)
    refine wpAny_pyNext_list_end calm m.iter (hl.at fun o e => m.old l o e) (Array.getElem?_eq_none (by omega)) fun h1 ext => ?_
    have hS1 := ext S _ ne hS
    refine wpAny_bind (m := updateSeq S _) (wpAny_updateSeq hS1 rfl (wpAny_bind (wpAny_letGo (wpAny_pure (fin b _ tk ?_ fun a o e => ?_)))))
    · rw [show its.size - 1 = j by omega]; exact hb
    · have aI : a ≠ I := fun z => by rw [z, fI] at e; cases e
      have aS : S ≠ a := fun z => by rw [← z, fS] at e; cases e
      exact (Heap.get?_update_other _ _ aS).trans (ext a o aI (m.old a o e))
  | succ left ih =>
    intro j h tk b sz m hb
    obtain ⟨c, hS⟩ := m.held
    have lt : j + 1 < its.size := by omega
    have hv : its[j + 1]? = some its[j + 1] := Array.getElem?_eq_getElem lt
    generalize its[j + 1] = v at hv
    refine codeAny_builtin PySem.F.entry_min_loop ?_
    rw [Around.under_plainId PySem.F.plain_min_loop]
    refine wpAny_bind (m := seqItems? (.ref S)) (wpAny_seqItems hS rfl ?_)
    refine wpAny_bind (m := Sem.tryCatch (pyNext (.ref I)) _) (wpAny_tryCatch ?_)
    refine wpAny_pyNext_list_item m.iter (hl.at fun o e => m.old l o e) hv fun h1 it1 sb => ?_
    have m1 := m.step fI ne sb it1
    obtain ⟨c1, hS1⟩ := m1.held
    refine wpAny_bind (m := Sem.tryCatch (holding [v, v] _) _) (wpAny_tryCatch (wpAny_holding (wpAny_bind ?_)))
    refine cmp (j + 1) (argBest bt j) v b _ _ _ hv hb m1.old ?_
    refine wpAny_bind (wpAny_holding (wpAny_truthy_bool (wpAny_bind (wpAny_letGo (wpAny_pure ?_)))))
    cases less : bt (j + 1) (argBest bt j) with
    | true =>
      simp only [if_true]
      refine wpAny_bind (m := updateSeq S _) (wpAny_updateSeq hS1 rfl (wpAny_bind (wpAny_letGo ?_)))
      rw [name_min]
      refine wpAny_pure ⟨plainId_quiet PySem.F.plain_min_loop _, ih (j + 1) _ tk v (by omega) (m1.hold fS ne) ?_⟩
      show its[if bt (j + 1) (argBest bt j) then j + 1 else argBest bt j]? = _
      rw [less]; exact hv
    | false =>
      simp only [Bool.false_eq_true, if_false]
      refine wpAny_bind (wpAny_letGo ?_)
      rw [name_min]
      refine wpAny_pure ⟨plainId_quiet PySem.F.plain_min_loop _, ih (j + 1) _ tk b (by omega) m1 ?_⟩
      show its[if bt (j + 1) (argBest bt j) then j + 1 else argBest bt j]? = _
      rw [less]; exact hb
theorem min_all (calm : A.handled = none) (hl : s.heap.IsList l its) (some_ : 0 < its.size) {Q : Value → Shared → Prop}
    (cmp : ∀ i j vi vj (t : Shared) (Q : Value → Shared → Prop) (E : Value → Shared → Prop), its[i]? = some vi → its[j]? = some vj → Keeps s.heap t.heap → Q (.bool (bt i j)) t → wpAny (model prog w) A.in1 (richCompare .Lt vi vj) Q E t)
    (fin : ∀ v h tk, its[argBest bt (its.size - 1)]? = some v → Keeps s.heap h → Q v { s with heap := h, toks := tk }) : wpAny (model prog w) A (call (.builtin "min") [.ref l]) Q E s := by
  refine call_function_tree PySem.F.kind_min PySem.F.plain_min PySem.F.entry_min (PySem.F.args_min1 _) ?_
  refine wpAny_bind (m := Builtin.Builtins.bindParams "min" ["key", "default"] 0 ⟨[], []⟩) (wpAny_of_eq (a := [none, none]) rfl (wpAny_bind (wpAny_pure ?_)))
  refine wpAny_bind (m := pyIter (.ref l)) (wpAny_pyIter_list hl (wpAny_bind (wpAny_newObj_type ?_)))
  have fI : s.heap.get? s.heap.objs.size = none := Heap.get?_none_of_le (Nat.le_refl _)
  have fS : s.heap.get? (s.heap.objs.size + 1) = none := Heap.get?_none_of_le (Nat.le_succ _)
  generalize hs : s.heap.objs.size = I at fI fS
  generalize hS : I + 1 = S at fS
  have ne : S ≠ I := by omega
  have sz : (s.heap.push { cls := .type "list_iterator", data := .fields #[.ref l, .int 0 0] }).objs.size = S := by rw [Heap.size_push, hs, hS]
  rw [name_min, sz]
  refine wpAny_pure ⟨plainId_quiet PySem.F.plain_min_loop _, codeAny_builtin PySem.F.entry_min_loop ?_⟩
  rw [Around.under_plainId PySem.F.plain_min_loop]
  have hI0 : ((s.heap.push { cls := .type "list_iterator", data := .fields #[.ref l, .int 0 0] }).push { cls := .type "list", data := .seq #[] }).IsListIter I l 0 := ⟨_, Heap.get?_push_of_some _ (hs ▸ Heap.get?_push_size _ rfl), rfl, rfl⟩
  have m : MinAt s.heap ((s.heap.push { cls := .type "list_iterator", data := .fields #[.ref l, .int 0 0] }).push { cls := .type "list", data := .seq #[] }) I S l 0 none :=
    ⟨fun c o e => Heap.get?_push_of_some _ (Heap.get?_push_of_some _ e), hI0, 0, by rw [← sz]; exact Heap.get?_push_size _ rfl⟩
  generalize ((s.heap.push { cls := .type "list_iterator", data := .fields #[.ref l, .int 0 0] }).push { cls := .type "list", data := .seq #[] }) = g at m
  obtain ⟨c, hS0⟩ := m.held
  have hv : its[0]? = some its[0] := Array.getElem?_eq_getElem some_
  generalize its[0] = v at hv
  refine wpAny_bind (m := seqItems? (.ref S)) (wpAny_seqItems hS0 rfl ?_)
  refine wpAny_bind (m := Sem.tryCatch (pyNext (.ref I)) _) (wpAny_tryCatch ?_)
  refine wpAny_pyNext_list_item m.iter (hl.at fun o e => m.old l o e) hv fun h1 it1 sb => ?_
  have m1 := m.step fI ne sb it1
  obtain ⟨c1, hS1⟩ := m1.held
  refine wpAny_bind (m := updateSeq S _) (wpAny_updateSeq hS1 rfl ?_)
  rw [name_min]
  exact wpAny_pure ⟨plainId_quiet PySem.F.plain_min_loop _, min_turns calm hl fI fS ne cmp (fun v h tk a b => fin v h tk a b) (its.size - 1) 0 _ _ v (by omega) (m1.hold fS ne) hv⟩
end
/-! ### by values -/
section
variable {X : Cx}
theorem best_least (row : Nat → List Int) : ∀ n j, j ≤ n → HT.lexLt (row j) (row (argBest (fun i j => HT.lexLt (row i) (row j)) n)) = false
  | 0, j, h => by
    rw [Nat.le_zero.mp h]
    cases e : HT.lexLt (row 0) (row 0) with
    | false => exact e
    | true => have := NtL.lex_asym _ _ e; rw [e] at this; cases this
  | n + 1, j, h => by
    have ih := best_least row n
    unfold argBest
    cases e : HT.lexLt (row (n + 1)) (row (argBest (fun i j => HT.lexLt (row i) (row j)) n)) with
    | true =>
      simp only [if_true]
      rcases Nat.lt_or_ge n j with c | c
      · rw [show j = n + 1 by omega]
        cases e2 : HT.lexLt (row (n + 1)) (row (n + 1)) with
        | false => rfl
        | true => have := NtL.lex_asym _ _ e2; rw [e2] at this; cases this
      · exact NtL.lex_tr _ _ _ (NtL.lex_asym _ _ e) (ih j c)
    | false =>
      simp only [Bool.false_eq_true, if_false]
      rcases Nat.lt_or_ge n j with c | c
      · rw [show j = n + 1 by omega]; exact e
      · exact ih j c
/-- min(xs) of a list of tuples of ints -/
def rMinT (K : PySem.W.Frag) : List V → Hp → VK → Prop := fun vs H Q => ∃ (a : Addr) (n : Nat) (t : Nat → Addr) (row : Nat → List Int), vs = [V.ref a] ∧ SqL K H a ((List.range (n + 1)).map fun i => V.ref (t i)) ∧ (∀ i, i ≤ n → SqT K H (t i) ((row i).map V.int)) ∧
  ∀ i, i ≤ n → (∀ j, j ≤ n → HT.lexLt (row j) (row i) = false) → Q (.ref (t i)) H
theorem cr_minT (hc : X.calm = true) (hu : X.A.in1.units < cLine) : CallR X (.builtin "min") (rMinT X.K) := by
  intro pins s σ H vs us Q I r h
  obtain ⟨a, n, t, row, rfl, hs, tups, q⟩ := h
  obtain ⟨its, rv, pl, _⟩ := I.list hs
  rw [Vals.ref1 r]
  have len : its.length = n + 1 := by rw [← rv.length, List.length_map, List.length_range]
  have item : ∀ i v, its.toArray[i]? = some v → i ≤ n ∧ v = Value.ref (t i) := fun i v e => by
    have e' : its[i]? = some v := by simpa using e
    have lt : i < its.length := (List.getElem?_eq_some_iff.mp e').1
    have le : i ≤ n := by omega
    have ev : ((List.range (n + 1)).map fun i => V.ref (t i))[i]? = some (V.ref (t i)) := by rw [List.getElem?_map, List.getElem?_range (by omega)]; rfl
    obtain ⟨u, hu, ru⟩ := rv.get ev
    rw [hu] at e'
    cases e'
    exact ⟨le, ru⟩
  have calm : X.A.handled = none := I.ok.hd hc
  refine min_all (bt := fun i j => HT.lexLt (row i) (row j)) calm pl.isList (by simp; omega) (fun i j vi vj g Q' E' hi hj kp z => ?_) (fun v h tk hv kp => ?_)
  · obtain ⟨li, rfl⟩ := item i vi hi
    obtain ⟨lj, rfl⟩ := item j vj hj
    obtain ⟨ii, ri, pi, _⟩ := I.tuple (tups i li)
    obtain ⟨ij, rj, pj, _⟩ := I.tuple (tups j lj)
    have at' : ∀ {b : Addr} {xs : Array Value}, IsTup s.heap b xs → IsTup g.heap b xs := fun ⟨o, e, c, k, d⟩ => ⟨o, kp _ _ e, c, k, d⟩
    exact HT.lt_tupInts (at' pi) (at' pj) (intsAre_of ri) (intsAre_of rj) hu z
  · obtain ⟨le, rfl⟩ := item _ v hv
    have sz : its.toArray.size - 1 = n := by simp; omega
    rw [sz] at le hv ⊢
    exact ⟨.ref _, H, I.kept kp, rfl, q _ le fun j hj => best_least row n j hj⟩
end
end L2
end
section
set_option maxHeartbeats 1000000
/-! zip of a tuple and a list. -/
namespace L2
open PySem PySem.Spec PyProof.Rows PySem.W
/-- what zip(tuple, list) has made: the two iterators, its two tuples, itself -/
structure MixZip (h : Heap) (n a b : Addr) : Prop where
  zip : IsZip h (n + 4) (n + 2) (n + 3) .none
  inner : IsTupOf2 h (n + 2) (.ref n) (.ref (n + 1))
  out : IsTupOf2 h (n + 3) .none .none
  one : h.IsTupleIter n a 0
  two : h.IsListIter (n + 1) b 0
theorem mix_made (g : Heap) (a b : Addr) : MixZip (((((g.push { cls := .type "tuple_iterator", data := .fields #[.ref a, .int 0 0] }).push { cls := .type "list_iterator", data := .fields #[.ref b, .int 0 0] }).push { cls := .type "tuple", data := .seq #[.ref g.objs.size, .ref (g.objs.size + 1)] }).push
    { cls := .type "tuple", data := .seq #[.none, .none] }).push { cls := .type "zip", data := .fields #[.none, .bool false, .bool false, .ref (g.objs.size + 2), .ref (g.objs.size + 3)] }) g.objs.size a b := by
  have up : ∀ {h : Heap} {c : Addr} {o x : Obj}, h.get? c = some o → (h.push x).get? c = some o := fun e => Heap.get?_push_of_some _ e
  have new : ∀ (h : Heap) (o : Obj) (c : Addr), h.objs.size = c → o.isFreed = false → (h.push o).get? c = some o := fun h o c e f => by subst e; exact Heap.get?_push_size _ f
  refine ⟨new _ _ _ (by simp only [Heap.size_push]) rfl, up (up (new _ _ _ (by simp only [Heap.size_push]) rfl)), up (new _ _ _ (by simp only [Heap.size_push]) rfl), ⟨_, up (up (up (up (new _ _ _ rfl rfl)))), rfl, rfl⟩, ⟨_, up (up (up (new _ _ _ (by simp only [Heap.size_push]) rfl))), rfl, rfl⟩⟩
theorem new_mix (a b : Addr) (xs ys : Array Value) : Meets (Builtin.«zip.__new__» ⟨[.type "zip", .ref a, .ref b], []⟩) (fun _ R s => s.heap.IsTuple a xs ∧ s.heap.IsList b ys ∧
      ∀ h', MixZip h' s.heap.objs.size a b → Keeps s.heap h' → R (.ok (.ret (.ref (s.heap.objs.size + 4)))) { s with heap := h' }) :=
  .of_wp fun prog w A R s h => by
    obtain ⟨g, gs, dr, tk, os⟩ := s
    obtain ⟨ha, hb, h⟩ := h
    have sub := sub_zip
    have a1 : Heap.IsTuple (Shared.heap ⟨g, gs, dr, tk, os⟩) a xs := ha
    have b1 : Heap.IsList (Shared.heap ⟨g.push { cls := .type "tuple_iterator", data := .fields #[.ref a, .int 0 0] }, gs, dr, tk, os⟩) b ys := Heap.IsList.push hb _
    wp_walk using wpAny_pyIter_tuple a1, wpAny_pyIter_list b1
    have q := h _ (mix_made g a b) fun c o e => Heap.get?_push_of_some _ (Heap.get?_push_of_some _ (Heap.get?_push_of_some _ (Heap.get?_push_of_some _ (Heap.get?_push_of_some _ e))))
    refine ⟨_, rfl, ?_⟩
    simp only [Heap.size_push]
    exact q
section
variable {prog : Program} {w : World} {A : Around} {E : Value → Shared → Prop} {s : Shared}
theorem call_mix {a b : Addr} {xs ys : Array Value} {Q : Value → Shared → Prop} (ha : s.heap.IsTuple a xs) (hb : s.heap.IsList b ys) (h : ∀ h', MixZip h' s.heap.objs.size a b → Keeps s.heap h' → Q (.ref (s.heap.objs.size + 4)) { s with heap := h' }) :
    wpAny (model prog w) A (call (.type "zip") [.ref a, .ref b]) Q E s :=
  callType_new PySem.F.called_zip (by decide) (PySem.F.typeCall_zip_2 _ _) (PySem.F.newCall_zip_2 _ _) (fun o => PySem.F.args_object_init_3 o _ _) PySem.F.entry_zip_new (new_mix a b xs ys) ⟨ha, hb, fun h' m k => ⟨⟨_, m.zip, rfl⟩, h h' m k⟩⟩
end
/-- a tuple's and a list's items in new pairs, as both stand at each turn; both are gone through by the same number of turns -/
def ItMix (K : PySem.W.Frag) (a b : Addr) : It :=
  ⟨fun i H => ∃ xs ys : List V, SqT K H a xs ∧ SqL K H b ys ∧ i < xs.length ∧ i < ys.length,
    fun i H v H' => ∃ (T : Addr) (x y : V), v = .ref T ∧ H T = none ∧ H' = upd H T (.tup [x, y]) ∧ (∀ xs, SqT K H a xs → xs[i]? = some x) ∧ ∀ ys, SqL K H b ys → ys[i]? = some y,
    fun i H => ∃ xs ys : List V, SqT K H a xs ∧ SqL K H b ys ∧ i ≤ xs.length ∧ i ≤ ys.length ∧ (i = xs.length ∨ i = ys.length)⟩
structure MixApart (z TI TO i1 i2 a b : Addr) : Prop where
  sep : ZipSep2 z TI TO i1 i2 [i1, a] [i2, b]
  i1z : i1 ≠ z
  i2z : i2 ≠ z
def MixTn (z TI TO i1 i2 a b : Addr) (i : Nat) (h : Heap) : Prop := IsZip h z TI TO .none ∧ IsTupOf2 h TI (.ref i1) (.ref i2) ∧ (∃ x y, IsTupOf2 h TO x y) ∧ h.IsTupleIter i1 a i ∧ h.IsListIter i2 b i
theorem five {z TI TO i1 i2 c : Addr} {p : Addr → Prop} (h : c ∈ [z, TI, TO, i1, i2]) (hz : p z) (hI : p TI) (hO : p TO) (h1 : p i1) (h2 : p i2) : p c := by
  have q : c = z ∨ c = TI ∨ c = TO ∨ c = i1 ∨ c = i2 := by simpa using h
  rcases q with rfl | rfl | rfl | rfl | rfl <;> assumption
theorem tup_ne {h : Heap} {i a : Addr} {k : Nat} {xs : Array Value} (it : h.IsTupleIter i a k) (p : IsTup h a xs) : a ≠ i := fun e => by
  obtain ⟨o, eo, c, _⟩ := it
  obtain ⟨o', eo', c', _⟩ := p
  rw [e, eo] at eo'
  cases eo'
  exact absurd (Value.type.inj (c.symm.trans c')) (by decide)
theorem lst_ne {h : Heap} {i a : Addr} {k : Nat} {xs : Array Value} (it : h.IsListIter i a k) (p : PlainL h a xs) : a ≠ i := fun e => by
  obtain ⟨o, eo, c, _⟩ := it
  obtain ⟨o', _, eo', c', _⟩ := p
  rw [e, eo] at eo'
  cases eo'
  exact absurd (Value.type.inj (c.symm.trans c')) (by decide)
theorem nin {x y c : Nat} (h1 : c ≠ x) (h2 : c ≠ y) : c ∉ [x, y] := by simp [h1, h2]
theorem turn_mix {P : Program} {w : World} {K : PySem.W.Frag} {elts : List Expr} {kk : Nat} {tpos : Pos} {a b z TI TO i1 i2 : Addr} (D : MixApart z TI TO i1 i2 a b) :
    Turn P w K (.Tuple elts kk tpos) (ItMix K a b) [z, TI, TO, i1, i2] z (MixTn z TI TO i1 i2 a b) where
  mem := by simp
  obj := fun i h ⟨hz, hI, ⟨x, y, hO⟩, ⟨o1, e1, _, d1⟩, ⟨o2, e2, _, d2⟩⟩ c hc =>
    five (p := fun c => ∃ o, h.get? c = some o ∧ ∀ v, o.data ≠ .cell v) hc ⟨_, hz, fun v q => nomatch q⟩ ⟨_, hI, fun v q => nomatch q⟩ ⟨_, hO, fun v q => nomatch q⟩ ⟨o1, e1, fun v q => by rw [d1] at q; cases q⟩ ⟨o2, e2, fun v q => by rw [d2] at q; cases q⟩
  keep := fun i h h' ⟨hz, hI, ⟨x, y, hO⟩, h1, h2⟩ k => ⟨k z (by simp) _ hz, k TI (by simp) _ hI, ⟨x, y, k TO (by simp) _ hO⟩, h1.at (k i1 (by simp)), h2.at (k i2 (by simp))⟩
  self := fun A i s Q E st h => wpAny_pyIter_zip st.1 h
  item := by
    intro X hP hw hK hc i pins s σ H E I hf st hg
    subst hP hw hK
    obtain ⟨hz, hI, ⟨x0, y0, hO⟩, h1, h2⟩ := st
    obtain ⟨xs, ys, qx, qy, lx, ly⟩ := hg
    obtain ⟨its, rv, p, _⟩ := I.tuple qx
    obtain ⟨its2, rv2, p2, _⟩ := I.list qy
    have l1 := rv.length
    have l2 := rv2.length
    have calm := I.ok.hd hc
    have na := tup_ne h1 p
    have nb := lst_ne h2 p2
    have zlt : z < s.heap.objs.size := Heap.lt_size hz
    refine wpAny_pyNext_zipD2_item D.sep (Draws.tuple (A := X.A.in1) calm i1 a na its.toArray) (Draws.list (A := X.A.in1) calm i2 b nb its2.toArray) hz hI hO ⟨h1, p⟩ ⟨h2, p2.isList⟩ (by simp; omega) (by simp; omega) fun u u2 h' tk hu hu2 z' O' st1 st2 hT sz keep => ?_
    obtain ⟨x, hx⟩ : ∃ x, xs[i]? = some x := ⟨_, List.getElem?_eq_getElem lx⟩
    obtain ⟨y, hy⟩ : ∃ y, ys[i]? = some y := ⟨_, List.getElem?_eq_getElem ly⟩
    obtain ⟨v, hv, ru⟩ := rv.get hx
    obtain ⟨v2, hv2, ru2⟩ := rv2.get hy
    have eu : v = u := by
      have hu' : its[i]? = some u := by simpa using hu
      rw [hv] at hu'; exact Option.some.inj hu'
    have eu2 : v2 = u2 := by
      have hu' : its2[i]? = some u2 := by simpa using hu2
      rw [hv2] at hu'; exact Option.some.inj hu'
    subst eu eu2
    refine ⟨_, rfl, wpAny_letOwnedTupleGo_zip (s := { s with heap := h', toks := tk }) z' fun h'' z'' sb => ?_⟩
    have T2 : h''.get? s.heap.objs.size = some { cls := .type "tuple", data := .seq #[v, v2] } := (sb.2 _ (Nat.ne_of_gt zlt)).trans hT
    have new : ObjOk X.prog X.w (upd H s.heap.objs.size (.tup [x, y])) h'' s.heap.objs.size (.tup [x, y]) := ⟨by show 2 ≤ sizeLine; decide, [v, v2], .cons ru (.cons ru2 .nil), ⟨_, T2, rfl, _, rfl⟩⟩
    have I1 : Inv X pins σ (upd H s.heap.objs.size (.tup [x, y])) { s with heap := h'', toks := tk } :=
      I.turnedNew (t' := tk) (ch := [z, TI, TO, i1, i2]) (fun c o nc q => (sb.2 c (fun e => nc (by simp [e]))).trans (keep c o (fun e => nc (by simp [e])) (fun e => nc (by simp [e])) (fun e => nc (by simp [e])) (fun e => nc (by simp [e])) q)) hf (Nat.le_refl _) new
    have nz : ∀ {c : Addr} {o : Obj}, c ≠ z → h'.get? c = some o → h''.get? c = some o := fun n e => (sb.2 _ n).trans e
    refine ⟨.ref s.heap.objs.size, _, I1, rfl, ⟨_, x, y, rfl, I.hok.fresh (Nat.le_refl _), rfl, fun l hl => by rw [I.tuple_inj hl qx]; exact hx, fun l hl => by rw [I.list_inj hl qy]; exact hy⟩, ⟨z'', nz D.sep.TIz (keep _ _ D.sep.TIz D.sep.TITO D.sep.TIi1 D.sep.TIi2 hI), ⟨v, v2, nz D.sep.TOz O'⟩, st1.1.at fun o => nz D.i1z, st2.1.at fun o => nz D.i2z⟩, fun c hc => ?_⟩
    have lt : c < s.heap.objs.size := five (p := fun c => c < s.heap.objs.size) hc zlt (Heap.lt_size hI) (Heap.lt_size hO) (by obtain ⟨_, e, _⟩ := h1; exact Heap.lt_size e) (by obtain ⟨_, e, _⟩ := h2; exact Heap.lt_size e)
    rw [upd_ne (Nat.ne_of_lt lt)]
    exact (hf c hc).1
  done := by
    intro X hP hw hK hc i pins s σ H E I hf st hg
    subst hP hw hK
    obtain ⟨hz, hI, ⟨x0, y0, hO⟩, h1, h2⟩ := st
    obtain ⟨xs, ys, qx, qy, lx, ly, e⟩ := hg
    obtain ⟨its, rv, p, _⟩ := I.tuple qx
    obtain ⟨its2, rv2, p2, _⟩ := I.list qy
    have l1 := rv.length
    have l2 := rv2.length
    have calm := I.ok.hd hc
    have na := tup_ne h1 p
    have nb := lst_ne h2 p2
    exact wpAny_pyNext_zipD2_end D.sep (Draws.tuple (A := X.A.in1) calm i1 a na its.toArray) (Draws.list (A := X.A.in1) calm i2 b nb its2.toArray) hz hI hO ⟨h1, p⟩ ⟨h2, p2.isList⟩ (by simp; omega) (by simp; omega) (by simp; omega) fun h' tk keep => ⟨rfl, I.turnedL (t' := tk) (ch := [z, TI, TO, i1, i2]) (fun c o nc q =>
      keep c o (fun e => nc (by simp [e])) (fun e => nc (by simp [e])) (fun e => nc (by simp [e])) (fun e => nc (by simp [e])) q) hf⟩
theorem mixApart_of (n a b : Nat) (ha : a < n) (hb : b < n) : MixApart (n + 4) (n + 2) (n + 3) n (n + 1) a b :=
  ⟨⟨Nat.ne_of_lt (by omega), Nat.ne_of_lt (by omega), Nat.ne_of_lt (by omega), Nat.ne_of_gt (by omega), List.mem_cons_self, nin (Nat.ne_of_gt (by omega)) (Nat.ne_of_gt (by omega)), nin (Nat.ne_of_gt (by omega)) (Nat.ne_of_gt (by omega)),
    Nat.ne_of_gt (by omega), List.mem_cons_self, nin (Nat.ne_of_gt (by omega)) (Nat.ne_of_gt (by omega)), nin (Nat.ne_of_gt (by omega)) (Nat.ne_of_gt (by omega)), nin (Nat.ne_of_lt (by omega)) (Nat.ne_of_gt (by omega)), nin (Nat.ne_of_gt (by omega)) (Nat.ne_of_gt (by omega))⟩, Nat.ne_of_lt (by omega), Nat.ne_of_lt (by omega)⟩
def iMix (K : PySem.W.Frag) (ta : TA) : TI := fun σ H R => ta σ H fun vs H1 => ∃ (a b : Addr) (xs ys : List V), vs = [.ref a, .ref b] ∧ SqT K H1 a xs ∧ SqL K H1 b ys ∧ R (ItMix K a b) H1
theorem pi_zipM {X : Cx} {e e2 : Expr} {ta : TA} {p pos tpos : Pos} {elts : List Expr} {kk : Nat} (hg : Gl X "zip") (hm : X.mg "zip" = none) (ha : PA X [e, e2] ta)
    (first : starEach [e, e2] X.env = (false, eval e X.env) :: starEach [e2] X.env := by rfl) (nost : (backTo pos (starEach [e2] X.env)).any (·.1) = false := by rfl) : PI X (.Tuple elts kk tpos) (.Call (.Name "zip" p) [e, e2] [] pos) (iMix X.K ta) := by
  constructor
  intro pins s σ H R I h
  refine Call_ (ld_blt I hg hm PyProof.Rows.boot_zip (PyProof.Rows.callWith_type1 (thn (ha.run pos pins s σ H _ I h) fun us s1 z => ?_) first nost))
  obtain ⟨vs, H1, I1, r1, a, b, xs, ys, rfl, qx, qy, q⟩ := z
  match us, r1 with
  | [u, v], .cons r (.cons r' .nil) =>
    obtain rfl : u = Value.ref a := r
    obtain rfl : v = Value.ref b := r'
    obtain ⟨its, rv, p1, _⟩ := I1.tuple qx
    obtain ⟨its2, rv2, p2, _⟩ := I1.list qy
    have alt : a < s1.heap.objs.size := by obtain ⟨_, e, _⟩ := p1; exact Heap.lt_size e
    have blt := p2.lt
    refine call_mix (show s1.heap.IsTuple a its.toArray from p1) p2.isList fun h' m k => wpAny_pyIter_zip m.zip ?_
    have I2 : Inv X pins σ H1 { s1 with heap := h' } := I1.kept (t' := s1.toks) k
    generalize hn : s1.heap.objs.size = n at m alt blt
    have D := mixApart_of n a b alt blt
    refine ⟨n + 4, [n + 4, n + 2, n + 3, n, n + 1], _, _, H1, rfl, I2, turn_mix D, ⟨m.zip, m.inner, ⟨_, _, m.out⟩, m.one, m.two⟩, fun c hc => ?_, q⟩
    have le : n ≤ c := five (p := fun c => n ≤ c) hc (by omega) (by omega) (by omega) (by omega) (by omega)
    exact I1.fpOk (hn ▸ le) (I1.hok.fresh (hn ▸ le))
/-- a loop over both, of one length -/
theorem for_mix {K : PySem.W.Frag} {a b : Addr} {xs ys : List V} {g : TG} {tb : TS} {D : Ends} {σ : L2.St} {H : Hp} (len : xs.length = ys.length) (Pv : Nat → L2.St → Hp → Prop) (h0 : Pv 0 σ H) (both : ∀ i σ H, Pv i σ H → SqT K H a xs ∧ SqL K H b ys)
    (turn : ∀ (i : Nat) (x y : V) (T : Addr) (σ : L2.St) (H : Hp), xs[i]? = some x → ys[i]? = some y → Pv i σ H → H T = none → g (.ref T) σ (upd H T (.tup [x, y])) fun σ2 H2 => tb { D with nx := Pv (i + 1), ct := Pv (i + 1), bk := D.nx } σ2 H2) (last : ∀ σ H, Pv xs.length σ H → D.nx σ H) :
    ∃ W : Nat → Nat → L2.St → Hp → Prop, (∃ m, W 0 m σ H) ∧ ∀ i m σ H, W i m σ H →
      ((ItMix K a b).stop i H ∧ D.nx σ H) ∨ ((ItMix K a b).go i H ∧ ∃ N : L2.St → Hp → Prop, (∀ σ' H', N σ' H' → ∃ m', m' < m ∧ W (i + 1) m' σ' H') ∧ ∀ v H', (ItMix K a b).yld i H v H' → g v σ H' fun σ2 H2 => tb { D with nx := N, ct := N, bk := D.nx } σ2 H2) := by
  refine ⟨fun i m σ H => m = xs.length - i ∧ i ≤ xs.length ∧ Pv i σ H, ⟨_, rfl, Nat.zero_le _, h0⟩, ?_⟩
  rintro i m σ H ⟨rfl, le, p⟩
  have ⟨qx, qy⟩ := both i σ H p
  rcases Nat.lt_or_eq_of_le le with lt | e
  · refine .inr ⟨⟨xs, ys, qx, qy, lt, by omega⟩, Pv (i + 1), fun σ' H' p' => ⟨_, by omega, rfl, lt, p'⟩, ?_⟩
    rintro v H' ⟨T, x, y, rfl, free, rfl, fx, fy⟩
    exact turn i x y T σ H (fx xs qx) (fy ys qy) p free
  · subst e
    exact .inl ⟨⟨xs, ys, qx, qy, Nat.le_refl _, by omega, .inl rfl⟩, last σ H p⟩
end L2
end
section
/-! Timetables: small functions. -/
namespace KT
open PySem L2
def top (i : Nat) : Stmt := PySem.Challenge.pw_allbrokers_k48_whole_lags.main.body.getD i (.Pass ⟨0, 0, 0, 0⟩)
/-- all else stands -/
def Off (p : Addr) (H H' : Hp) : Prop := ∀ b o, H b = some o → b ≠ p → H' b = some o
theorem Off.same {p : Addr} {H H' : Hp} (e : Same H H') : Off p H H' := fun b o z _ => e b o z
theorem Off.trans {p : Addr} {H H1 H2 : Hp} (a : Off p H H1) (b : Off p H1 H2) : Off p H H2 := fun c o z n => b c o (a c o z n) n
theorem Off.upd {p : Addr} {H : Hp} {o : HO} : Off p H (upd H p o) := fun b u z n => by rw [upd_ne n]; exact z
theorem made {H : Hp} {p : Addr} {o : HO} (h : H p = none) : Same H (upd H p o) := fun b u e => by rw [upd_ne (ne_of_none e h)]; exact e
theorem put_in {H H' : Hp} {p : Addr} {o : HO} (e : Same H H') (h : H p = none) : Same H (upd H' p o) := fun b u z => by rw [upd_ne (ne_of_none z h)]; exact e _ _ z
section
variable {K : PySem.W.Frag} {ta tv : TE} {f : Str} {t u : TS} {D : Ends} {σ : L2.St} {H : Hp}
theorem into_fld (h : tv σ H fun y H1 => ta σ H1 fun x H2 => ∃ a C dx fs, x = .ref a ∧ H2 a = some (.ins C dx fs) ∧ Cls K C ∧ NoAttr K C f ∧ fs.length < 1000 ∧ u D σ (upd H2 a (.ins C dx (putF f y fs)))) : tSeq (sFld K ta tv f) u D σ H := h
theorem last_fld (h : tv σ H fun y H1 => ta σ H1 fun x H2 => ∃ a C dx fs, x = .ref a ∧ H2 a = some (.ins C dx fs) ∧ Cls K C ∧ NoAttr K C f ∧ fs.length < 1000 ∧ D.nx σ (upd H2 a (.ins C dx (putF f y fs)))) : sFld K ta tv f D σ H := h
theorem into (h : t { D with nx := u D } σ H) : tSeq t u D σ H := h
end
/-- an int of a list -/
theorem int_at {ns : List Int} {i : Nat} {x : V} (h : (ns.map V.int)[i]? = some x) : ∃ n, ns[i]? = some n ∧ x = .int n := by
  rw [List.getElem?_map] at h
  cases e : ns[i]? with
  | none => rw [e] at h; cases h
  | some g => rw [e] at h; exact ⟨g, rfl, (Option.some.inj h).symm⟩
/-! ### objects -/
def tF (a b : Addr) : List (Str × V) := putF "period" (.ref b) (putF "front" (.ref a) [])
def TimesAt (C : Addr) (H : Hp) (p : Addr) (fs ps : List Int) : Prop := ∃ dx a b, H p = some (.ins C dx (tF a b)) ∧ H a = some (.lst (fs.map V.int)) ∧ H b = some (.lst (ps.map V.int))
theorem TimesAt.same {C p : Addr} {H H' : Hp} {fs ps : List Int} (h : TimesAt C H p fs ps) (e : Same H H') : TimesAt C H' p fs ps :=
  have ⟨dx, a, b, h1, h2, h3⟩ := h
  ⟨dx, a, b, e _ _ h1, e _ _ h2, e _ _ h3⟩
theorem lk_front {a b : Addr} : (tF a b).lookup ("front" : Str) = some (.ref a) := by
  unfold tF
  rw [lookup_putF, if_neg (by decide +kernel), lookup_putF, if_pos rfl]
theorem lk_period {a b : Addr} : (tF a b).lookup ("period" : Str) = some (.ref b) := by
  unfold tF
  rw [lookup_putF, if_pos rfl]
theorem lk_none {a b : Addr} {m : Str} (h : ¬ m = "period" ∧ ¬ m = "front") : (tF a b).lookup m = none := by
  unfold tF
  rw [lookup_putF, if_neg h.1, lookup_putF, if_neg h.2]; rfl
/-- a result with two fields -/
def rF (x y : Str) (u v : V) : List (Str × V) := putF y v (putF x u [])
theorem rF_fst {x y : Str} {u v : V} (h : ¬ x = y) : (rF x y u v).lookup x = some u := by
  unfold rF
  rw [lookup_putF, if_neg h, lookup_putF, if_pos rfl]
theorem rF_snd {x y : Str} {u v : V} : (rF x y u v).lookup y = some v := by
  unfold rF
  rw [lookup_putF, if_pos rfl]
/-- the classes that the law meets -/
structure Cs where
  (times lag grow keep rate bad broker : Addr)
/-- what their truth is -/
def Bs (c : Cs) (C : Addr) (b : Bool) : Prop := (C = c.lag ∧ b = true) ∨ (C = c.grow ∧ b = false) ∨ (C = c.keep ∧ b = true)
structure CTxt (K : PySem.W.Frag) (mg : Str → Option Value) (C : Addr) (name : Str) : Prop where
  cl : Cls K C
  g : mg name = some (.ref C)
  own : C8.InsC K C
  ki : PySem.W.kitOne K (.ref C) (.ref C) = some true
/-- the error that is raised -/
structure ETxt (K : PySem.W.Frag) (mg : Str → Option Value) (C CB : Addr) : Prop where
  x : PySem.W.excIn K C [.type "ValueError", .type "Exception", .type "BaseException", .type "object"] "ValueError.__new__" = true
  c : mg "BadTimes" = some (.ref C)
  k : PySem.W.keepIn K (.ref C) = true
  b : PySem.W.subIn K (.ref C) (.type "BaseException") = some true
  t : PySem.W.typeIn K (.ref C) = some (.type "type")
  e : ExcC K C
  self : PySem.W.exmOne K (.ref C) (.ref C) = some true
  ki : PySem.W.kitOne K (.ref C) (.ref CB) = some true
  g : mg "BrokerError" = some (.ref CB)
/-- what all functions read of the top -/
structure Txt (P : Program) (w : World) (K : PySem.W.Frag) (mg : Str → Option Value) (base : Heap) (c : Cs) : Prop where
  says : ∀ C b, Bs c C b → SaysB P w K mg base C b
  type : mg "type" = none
  int : mg "int" = none
  bool : mg "bool" = none
  len : mg "len" = none
  list : mg "list" = none
  tuple : mg "tuple" = none
  isinstance : mg "isinstance" = none
  all : mg "all" = none
  any : mg "any" = none
  max : mg "max" = none
  min : mg "min" = none
  sum : mg "sum" = none
  abs : mg "abs" = none
  range : mg "range" = none
  enumerate : mg "enumerate" = none
  sorted : mg "sorted" = none
  zip : mg "zip" = none
  divmod : mg "divmod" = none
  bad : ETxt K mg c.bad c.broker
  g_lcm : mg "lcm" = some (.builtin "math.lcm")
  g_MOST_TICKS : ∃ t, mg "MOST_TICKS" = some (.int 24 t)
  g_MOST_ROWS : ∃ t, mg "MOST_ROWS" = some (.int 100 t)
  g_MOST_BOUND : ∃ t, mg "MOST_BOUND" = some (.int 1000 t)
  Times : CTxt K mg c.times "Times"
  Lag : CTxt K mg c.lag "Lag"
  Growing : CTxt K mg c.grow "Growing"
  Keep : CTxt K mg c.keep "Keep"
  Rate : CTxt K mg c.rate "Rate"
  no_is : PySem.W.kitOne K (.type "NoneType") (.ref c.times) = some false
  lst_is : PySem.W.kitOne K (.type "list") (.ref c.times) = some false
  n_front : NoAttr K c.times "front"
  n_period : NoAttr K c.times "period"
  n_lnumber : NoAttr K c.lag "number"
  n_ltick : NoAttr K c.lag "tick"
  n_gperiod : NoAttr K c.grow "period"
  n_ggrowth : NoAttr K c.grow "growth"
  n_krows : NoAttr K c.keep "rows"
  n_ktick : NoAttr K c.keep "tick"
  n_kgroup : NoAttr K c.keep "group"
  n_rnumber : NoAttr K c.rate "number"
  n_rtick : NoAttr K c.rate "tick"
/-- where a function stands -/
structure At (K : PySem.W.Frag) (mg : Str → Option Value) (name : Str) (f : Addr) : Prop where
  g : mg name = some (.ref f)
  k : PySem.W.keepIn K (.ref f) = true
theorem kit_lt {K : PySem.W.Frag} : PySem.W.kitAny K (.type "list") [.type "list", .type "tuple"] = some true := kitAny_cons (b := true) (kit_ty (by decide +kernel)) (fun e => nomatch e) (fun _ => rfl)
/-! ### promises -/
def spNum : Sp := fun vs H Q _ => ∃ i : Int, vs = [.int i] ∧ Q (.bl (decide (0 ≤ i))) H
def spAre (K : PySem.W.Frag) : Sp := fun vs H Q _ => ∃ (p : Addr) (ns : List Int), vs = [.ref p] ∧ H p = some (.lst (ns.map V.int)) ∧ ns.length ≤ 24 ∧ (∀ x ∈ ns, 0 ≤ x) ∧ (∀ x ∈ ns, x ≤ 100) ∧ ∀ H', Same H H' → Q (.bl true) H'
def spTInit (c : Cs) : Sp := fun vs H Q _ => ∃ (p dx f q : Addr) (fs ps : List Int), vs = [.ref p, .ref f, .ref q] ∧ H p = some (.ins c.times dx []) ∧ H f = some (.lst (fs.map V.int)) ∧ H q = some (.lst (ps.map V.int)) ∧ Good fs ps ∧
  ∀ (H' : Hp) (dx' a b : Addr), Off p H H' → H' p = some (.ins c.times dx' (tF a b)) → H' a = some (.lst (fs.map V.int)) → H' b = some (.lst (ps.map V.int)) → H a = none → H b = none → Q .non H'
def spAt (c : Cs) : Sp := fun vs H Q _ => ∃ (p : Addr) (fs ps : List Int) (t : Nat), vs = [.ref p, .int t] ∧ TimesAt c.times H p fs ps ∧ Good fs ps ∧ Q (.int (at_ fs ps t)) H
def spFront (c : Cs) : Sp := fun vs H Q _ => ∃ (p q : Addr) (fs ps gs qs : List Int), vs = [.ref p, .ref q] ∧ TimesAt c.times H p fs ps ∧ TimesAt c.times H q gs qs ∧ Q (.int ((max fs.length gs.length : Nat) : Int)) H
def spPer (c : Cs) : Sp := fun vs H Q _ => ∃ (p q : Addr) (fs ps gs qs : List Int), vs = [.ref p, .ref q] ∧ TimesAt c.times H p fs ps ∧ TimesAt c.times H q gs qs ∧ Good fs ps ∧ Good gs qs ∧ Q (.int ((Nat.lcm ps.length qs.length : Nat) : Int)) H
def spCheck (c : Cs) : Sp := fun vs H Q _ => ∃ (p : Addr) (fs ps : List Int), vs = [.ref p] ∧ TimesAt c.times H p fs ps ∧ Q .non H
section
variable {P : Program} {w : World} {K : PySem.W.Frag} {mg : Str → Option Value} {base : Heap} {c : Cs}
abbrev sNum : Stmt := top 4
theorem scNum : FnScope ["value"] ["value"] (defScope sNum) := ⟨rfl, rfl, rfl, by decide +kernel, rfl, by decide +kernel, by decide +kernel⟩
theorem ok_num {f : Addr} {fd : FuncData} (F : Fun K "is_number" "is_number" sNum f fd) (T : Txt P w K mg base c) : FnOk P w K mg base CX0 1 f fd ["value"] spNum := by
  refine F.ok scNum (fun vs H Q E h => ?_) (fun cdv A outer s H vs Q E hr h => ?_)
  · obtain ⟨i, rfl, _⟩ := h
    rfl
  · obtain ⟨i, rfl, k⟩ := h
    refine ⟨_, (pss_one (ps_ret (pe_and (pe_cmpR op_isTyB (pe_callTy call_type1 (by rfl) T.type (by decide +kernel) (pa_cons (pv 0) pa_nil)) (pe_bltn (v := .ty "int") (by rfl) T.int (by decide +kernel) rfl) (nomark _)) (pe_one (pe_cmpR op_ge (pv 0) pe_int (nomark _)))))), ?_⟩
    exact ⟨_, rfl, _, "int", rfl, .int i, "int", "int", rfl, rfl, _, rfl, iteT ⟨_, rfl, _, _, rfl, rfl, k⟩⟩
abbrev sAre : Stmt := top 11
abbrev nAre : List Str := ["rows", "number"]
theorem scAre : FnScope nAre ["rows"] (defScope sAre) := ⟨rfl, rfl, rfl, by decide +kernel, rfl, by decide +kernel, by decide +kernel⟩
theorem ok_are {f fN : Addr} {fd fdN : FuncData} (F : Fun K "are_numbers" "are_numbers" sAre f fd) (T : Txt P w K mg base c) (A_is_number : At K mg "is_number" fN) (G_is_number : FnOk P w K mg base CX0 1 fN fdN ["value"] spNum) (b_is_number : Binds K fdN ["value"] []) :
    FnOk P w K mg base CX0 2 f fd ["rows"] (spAre K) := by
  refine F.ok scAre (fun vs H Q E h => ?_) (fun cdv A outer s H vs Q E hr h => ?_)
  · obtain ⟨p, ns, rfl, _⟩ := h
    rfl
  · obtain ⟨p, ns, rfl, hp, few, low, high, k⟩ := h
    have nd := scAre.nd
    have hr_is_number : Room 1 _ := hr
    obtain ⟨t24, g24⟩ := T.g_MOST_TICKS
    obtain ⟨t100, g100⟩ := T.g_MOST_ROWS
    refine ⟨_, (pss_cons (ps_if (PW.pt (pw_or (pt_not (pt_val (pe_callB call_isiT (by rfl) T.isinstance (by decide +kernel) (pa_cons (pv 0) (pa_cons (pe_tup (pa_cons (pe_bltn (v := .ty "list") (by rfl) T.list (by decide +kernel) rfl) (pa_cons (pe_bltn (v := .ty "tuple") (by rfl) T.tuple (by decide +kernel) rfl) pa_nil))) pa_nil))))) (pw_or1 (pt_cmpR op_gt (pe_callB call_len_seq (by rfl) T.len PySem.boot_len (pa_cons (pv 0) pa_nil)) (pe_glob (v := .int 24) (by rfl) g24 ⟨_, rfl⟩) (nomark _)))))
        (pss_one (ps_ret pe_bl))
        pss_nil)
      (pss_one (ps_ret (pe_callB (cr_all rfl) (by rfl) T.all (by decide +kernel) (pa_cons (pe_lc (own := [("number", 1)]) (by rfl) nd (pi_list (pv 0)) (blkOk_by (N := nAre) (sc := defScope sAre) (by decide +kernel)) (fun _ _ _ _ _ => (pg_name (i := 1) nd rfl (Or.inl rfl))) (fun _ _ _ _ _ => pts_nil) (fun _ _ _ _ _ => (pe_and (pe_call G_is_number hr_is_number (by rfl) A_is_number.g A_is_number.k b_is_number .nil pass0 (pa_cons (pv 1) pa_nil)) (pe_one (pe_cmpR op_le (pv 1) (pe_glob (v := .int 100) (by rfl) g100 ⟨_, rfl⟩) (nomark _)))))) pa_nil))))), ?_⟩
    refine ⟨_, rfl, by show 2 ≤ sizeLine; decide, fun t nt => ⟨.ref p, t, _, _, _, _, rfl, upd_same, .cons (.ty _) (.cons (.ty _) .nil), .base (.lst (made nt _ _ hp)), kit_lt, _, rfl, iteF ?_⟩⟩
    have e1 : Same H (upd H t (.tup [.ty "list", .ty "tuple"])) := made nt
    refine ⟨_, rfl, p, _, rfl, .inl (SqL.of (e1 _ _ hp)), _, _, rfl, rfl, _, rfl, ?_⟩
    rw [List.length_map, decide_eq_false (show ¬ (ns.length : Int) > 24 by omega)]
    refine iteF ?_
    generalize upd H t (.tup [.ty "list", .ty "tuple"]) = H1 at e1
    refine ⟨_, rfl, p, rfl, ⟨_, SqL.of (e1 _ _ hp)⟩, fun D hD => lc_list (K := K) (a := p) (xs := ns.map V.int) (fun i H' => H' D = some (.lst ((List.replicate i true).map V.bl)) ∧ Same H1 H') ⟨upd_same, made hD⟩ (fun i H' _ ⟨_, e⟩ => SqL.of (e _ _ (e1 _ _ hp))) ?_ ?_⟩
    · rintro i x H2 hx ⟨h2, e⟩
      obtain ⟨n, hn, rfl⟩ := int_at hx
      have mem := List.mem_of_getElem? hn
      have lt : i < ns.length := (List.getElem?_eq_some_iff.mp hn).1
      refine ⟨rfl, _, rfl, n, rfl, _, rfl, ?_⟩
      rw [decide_eq_true (low n mem)]
      refine iteT ⟨_, rfl, _, _, rfl, rfl, ?_⟩
      dsimp only
      rw [decide_eq_true (high n mem)]
      refine ⟨_, h2, by rw [List.length_map, List.length_replicate, sizeLine_eq]; omega, ?_, put_in e hD⟩
      rw [upd_same, List.replicate_succ', List.map_append]; rfl
    · rintro H2 ⟨h2, e⟩
      refine ⟨D, _, rfl, SqL.of h2, ?_⟩
      rw [show (List.replicate (ns.map V.int).length true).all id = true from List.all_eq_true.mpr fun x hx => by rw [(List.mem_replicate.mp hx).2]; rfl]
      exact k _ (e1.trans e)
abbrev sAt : Stmt := top 12
theorem scAt : FnScope ["times", "tick", "ahead"] ["times", "tick"] (defScope sAt) := ⟨rfl, rfl, rfl, by decide +kernel, rfl, by decide +kernel, by decide +kernel⟩
theorem ok_at {f : Addr} {fd : FuncData} (F : Fun K "number_at" "number_at" sAt f fd) (T : Txt P w K mg base c) : FnOk P w K mg base CX0 1 f fd ["times", "tick"] (spAt c) := by
  refine F.ok scAt (fun vs H Q E h => ?_) (fun cdv A outer s H vs Q E hr h => ?_)
  · obtain ⟨p, fs, ps, t, rfl, _⟩ := h
    rfl
  · obtain ⟨p, fs, ps, t, rfl, ⟨dx, a, b, hp, ha, hb⟩, good, k⟩ := h
    have nd := scAt.nd
    refine ⟨_, (pss_cons (ps_set (i := 2) nd rfl (Or.inl rfl) (pe_callB call_len_seq (by rfl) T.len PySem.boot_len (pa_cons (pe_fld (pv 0) rfl) pa_nil)))
      (pss_one (ps_ret (pe_ifExp (pt_cmpR op_lt (pv 1) (pv 2) (nomark _)) (pe_ix ix_list (pe_fld (pv 0) rfl) (pv 1) (fun _ _ => rfl)) (pe_ix ix_list (pe_fld (pv 0) rfl) (pe_op op_mod (pe_op op_sub (pv 1) (pv 2)) (pe_callB call_len_seq (by rfl) T.len PySem.boot_len (pa_cons (pe_fld (pv 0) rfl) pa_nil))) (fun _ _ => rfl)))))), ?_⟩
    refine ⟨_, rfl, p, _, dx, _, _, rfl, hp, T.Times.cl, T.n_front, lk_front, a, _, rfl, .inl (SqL.of ha), ?_⟩
    refine ⟨_, rfl, _, rfl, _, _, rfl, rfl, _, rfl, ?_⟩
    rw [List.length_map]
    have pos := good.pos
    rcases Nat.lt_or_ge t fs.length with lt | ge
    · rw [decide_eq_true (show (t : Int) < fs.length by omega)]
      refine iteT ⟨_, rfl, p, _, dx, _, _, rfl, hp, T.Times.cl, T.n_front, lk_front, _, rfl, a, _, _, .int (at_ fs ps t), rfl, rfl, SqL.of ha, atI_nat ?_, k⟩
      unfold at_
      rw [if_pos lt, List.getElem?_map, List.getD_eq_getElem?_getD, List.getElem?_eq_getElem lt]; rfl
    · rw [decide_eq_false (show ¬ (t : Int) < fs.length by omega)]
      have lt := Nat.mod_lt (t - fs.length) pos
      refine iteF ⟨_, rfl, p, _, dx, _, _, rfl, hp, T.Times.cl, T.n_period, lk_period, _, rfl, _, rfl, _, _, rfl, rfl, _, rfl, p, _, dx, _, _, rfl, hp, T.Times.cl, T.n_period, lk_period, b, _, rfl, .inl (SqL.of hb), _, _, rfl, rfl, ?_, b, _, _, .int (at_ fs ps t), rfl, rfl, SqL.of hb, ?_, k⟩
      · rw [List.length_map]; omega
      · rw [List.length_map, show (t : Int) - (fs.length : Int) = ((t - fs.length : Nat) : Int) by omega, ← Int.natCast_emod]
        refine atI_nat ?_
        unfold at_
        rw [if_neg (by omega), List.getElem?_map, List.getD_eq_getElem?_getD, List.getElem?_eq_getElem lt]; rfl
abbrev sFront : Stmt := top 13
theorem scFront : FnScope ["one", "other"] ["one", "other"] (defScope sFront) := ⟨rfl, rfl, rfl, by decide +kernel, rfl, by decide +kernel, by decide +kernel⟩
theorem ok_front {f : Addr} {fd : FuncData} (F : Fun K "common_front" "common_front" sFront f fd) (T : Txt P w K mg base c) : FnOk P w K mg base CX0 1 f fd ["one", "other"] (spFront c) := by
  refine F.ok scFront (fun vs H Q E h => ?_) (fun cdv A outer s H vs Q E hr h => ?_)
  · obtain ⟨p, q, fs, ps, gs, qs, rfl, _⟩ := h
    rfl
  · obtain ⟨p, q, fs, ps, gs, qs, rfl, ⟨dx, a, b, hp, ha, hb⟩, ⟨dy, a', b', hq, ha', hb'⟩, k⟩ := h
    refine ⟨_, (pss_one (ps_ret (pe_callB (call_max2 rfl) (by rfl) T.max (by decide +kernel) (pa_cons (pe_callB call_len_seq (by rfl) T.len PySem.boot_len (pa_cons (pe_fld (pv 0) rfl) pa_nil)) (pa_cons (pe_callB call_len_seq (by rfl) T.len PySem.boot_len (pa_cons (pe_fld (pv 1) rfl) pa_nil)) pa_nil))))), ?_⟩
    refine ⟨_, rfl, p, _, dx, _, _, rfl, hp, T.Times.cl, T.n_front, lk_front, a, _, rfl, .inl (SqL.of ha), _, rfl, q, _, dy, _, _, rfl, hq, T.Times.cl, T.n_front, lk_front, a', _, rfl, .inl (SqL.of ha'), _, _, rfl, ?_⟩
    rw [List.length_map, List.length_map]
    rw [show ((max fs.length gs.length : Nat) : Int) = if (gs.length : Int) > fs.length then (gs.length : Int) else fs.length from by split <;> omega] at k
    exact k
abbrev sPer : Stmt := top 14
theorem scPer : FnScope ["one", "other"] ["one", "other"] (defScope sPer) := ⟨rfl, rfl, rfl, by decide +kernel, rfl, by decide +kernel, by decide +kernel⟩
theorem ok_per {f : Addr} {fd : FuncData} (F : Fun K "common_period" "common_period" sPer f fd) (T : Txt P w K mg base c) : FnOk P w K mg base CX0 1 f fd ["one", "other"] (spPer c) := by
  refine F.ok scPer (fun vs H Q E h => ?_) (fun cdv A outer s H vs Q E hr h => ?_)
  · obtain ⟨p, q, fs, ps, gs, qs, rfl, _⟩ := h
    rfl
  · obtain ⟨p, q, fs, ps, gs, qs, rfl, ⟨dx, a, b, hp, ha, hb⟩, ⟨dy, a', b', hq, ha', hb'⟩, g1, g2, k⟩ := h
    refine ⟨_, (pss_one (ps_ret (pe_callBfun cr_lcm (by rfl) T.g_lcm (pa_cons (pe_callB call_len_seq (by rfl) T.len PySem.boot_len (pa_cons (pe_fld (pv 0) rfl) pa_nil)) (pa_cons (pe_callB call_len_seq (by rfl) T.len PySem.boot_len (pa_cons (pe_fld (pv 1) rfl) pa_nil)) pa_nil))))), ?_⟩
    refine ⟨_, rfl, p, _, dx, _, _, rfl, hp, T.Times.cl, T.n_period, lk_period, b, _, rfl, .inl (SqL.of hb), _, rfl, q, _, dy, _, _, rfl, hq, T.Times.cl, T.n_period, lk_period, b', _, rfl, .inl (SqL.of hb'), _, _, rfl, ?_⟩
    have f1 := g1.few'
    have f2 := g2.few'
    rw [List.length_map, List.length_map]
    refine ⟨by omega, by omega, ?_⟩
    rw [Int.natAbs_natCast, Int.natAbs_natCast]
    exact k
abbrev sCheck : Stmt := top 17
theorem scCheck : FnScope ["times"] ["times"] (defScope sCheck) := ⟨rfl, rfl, rfl, by decide +kernel, rfl, by decide +kernel, by decide +kernel⟩
theorem ok_check {f : Addr} {fd : FuncData} (F : Fun K "check_times" "check_times" sCheck f fd) (T : Txt P w K mg base c) : FnOk P w K mg base CX0 1 f fd ["times"] (spCheck c) := by
  refine F.ok scCheck (fun vs H Q E h => ?_) (fun cdv A outer s H vs Q E hr h => ?_)
  · obtain ⟨p, fs, ps, rfl, _⟩ := h
    rfl
  · obtain ⟨p, fs, ps, rfl, ⟨dx, a, b, hp, ha, hb⟩, k⟩ := h
    refine ⟨_, (pss_one (ps_if (pt_not (pt_val (pe_callB call_isi (by rfl) T.isinstance (by decide +kernel) (pa_cons (pv 0) (pa_cons (pe_glob (v := .ref c.times) (by rfl) T.Times.g rfl) pa_nil)))))
        (pss_one (ps_never))
        pss_nil)), ?_⟩
    exact ⟨_, rfl, .ref p, .ref c.times, _, _, true, rfl, .own _, .base (.ins hp T.Times.cl T.Times.own.ha T.Times.own.hn T.Times.own.htk T.Times.own.hm), T.Times.ki, _, rfl, iteF k⟩
end
end KT
end
section
/-! Timetables: results, made ones, lags. -/
namespace KT
open PySem L2
/-- what a common period brings more -/
def growth (fs ps gs qs : List Int) : Int := sumW (fun i => at_ fs ps i - at_ gs qs i) (max fs.length gs.length) (Nat.lcm ps.length qs.length)
def frontN (fs gs : List Int) : Nat := max fs.length gs.length
def perN (ps qs : List Int) : Nat := Nat.lcm ps.length qs.length
def ticksN (fs ps gs qs : List Int) : Nat := frontN fs gs + 2 * perN ps qs
theorem perN_pos {fs ps gs qs : List Int} (g1 : Good fs ps) (g2 : Good gs qs) : 0 < perN ps qs := Nat.lcm_pos g1.pos g2.pos
theorem perN_le {fs ps gs qs : List Int} (g1 : Good fs ps) (g2 : Good gs qs) : perN ps qs ≤ 576 := by
  have a := g1.few'
  have b := g2.few'
  have l : perN ps qs ≤ ps.length * qs.length := Nat.le_of_dvd (Nat.mul_pos g1.pos g2.pos) (Nat.lcm_dvd_mul ..)
  exact Nat.le_trans l (Nat.mul_le_mul a b)
theorem ticksN_le {fs ps gs qs : List Int} (g1 : Good fs ps) (g2 : Good gs qs) : ticksN fs ps gs qs ≤ 2000 := by
  have a := g1.few
  have b := g2.few
  have := perN_le g1 g2
  unfold ticksN frontN; omega
theorem two_of {fs ps gs qs : List Int} (g1 : Good fs ps) (g2 : Good gs qs) : Two (at_ fs ps) (at_ gs qs) (frontN fs gs) (perN ps qs) := by
  refine ⟨perN_pos g1 g2, ?_, ?_⟩
  · obtain ⟨m, e⟩ := Nat.dvd_lcm_left ps.length qs.length
    exact at_per_mul (by unfold frontN; omega) m e
  · obtain ⟨m, e⟩ := Nat.dvd_lcm_right ps.length qs.length
    exact at_per_mul (by unfold frontN; omega) m e
theorem growth_eq {fs ps gs qs : List Int} (g1 : Good fs ps) (g2 : Good gs qs) : ps.sum * ((perN ps qs : Int) / (ps.length : Int)) - qs.sum * ((perN ps qs : Int) / (qs.length : Int)) = growth fs ps gs qs := by
  unfold growth
  rw [sum_sub]
  obtain ⟨m, e⟩ := Nat.dvd_lcm_left ps.length qs.length
  obtain ⟨m', e'⟩ := Nat.dvd_lcm_right ps.length qs.length
  rw [at_window (m := m) (by omega) e, at_window (m := m') (by omega) e']
  have d1 : (perN ps qs : Int) / (ps.length : Int) = m := by
    show ((Nat.lcm ps.length qs.length : Nat) : Int) / (ps.length : Int) = m
    rw [e, Int.natCast_mul, Int.mul_ediv_cancel_left _ (by have := g1.pos; omega)]
  have d2 : (perN ps qs : Int) / (qs.length : Int) = m' := by
    show ((Nat.lcm ps.length qs.length : Nat) : Int) / (qs.length : Int) = m'
    rw [e', Int.natCast_mul, Int.mul_ediv_cancel_left _ (by have := g2.pos; omega)]
  rw [d1, d2, Int.mul_comm, Int.mul_comm qs.sum]
/-! ### promises -/
/-- a class whose __init__ stores two values -/
def spR2 (C : Addr) (x y : Str) : Sp := fun vs H Q _ => ∃ (p dx : Addr) (u v : V), vs = [.ref p, u, v] ∧ H p = some (.ins C dx []) ∧ ∀ H', Off p H H' → H' p = some (.ins C dx (rF x y u v)) → Q .non H'
def kF (u v z : V) : List (Str × V) := putF "group" z (putF "tick" v (putF "rows" u []))
def spK3 (C : Addr) : Sp := fun vs H Q _ => ∃ (p dx : Addr) (u v z : V), vs = [.ref p, u, v, z] ∧ H p = some (.ins C dx []) ∧ ∀ H', Off p H H' → H' p = some (.ins C dx (kF u v z)) → Q .non H'
/-- two timetables at hand -/
structure Both (c : Cs) (H : Hp) (p q : Addr) (fs ps gs qs : List Int) : Prop where
  one : TimesAt c.times H p fs ps
  two : TimesAt c.times H q gs qs
  g1 : Good fs ps
  g2 : Good gs qs
theorem Both.same {c : Cs} {H H' : Hp} {p q : Addr} {fs ps gs qs : List Int} (b : Both c H p q fs ps gs qs) (e : Same H H') : Both c H' p q fs ps gs qs := ⟨b.one.same e, b.two.same e, b.g1, b.g2⟩
def spGrow (c : Cs) : Sp := fun vs H Q _ => ∃ (p q : Addr) (fs ps gs qs : List Int), vs = [.ref p, .ref q] ∧ Both c H p q fs ps gs qs ∧ Q (.int (growth fs ps gs qs)) H
def spTicks (c : Cs) : Sp := fun vs H Q _ => ∃ (p q : Addr) (fs ps gs qs : List Int), vs = [.ref p, .ref q] ∧ Both c H p q fs ps gs qs ∧ Q (.int (ticksN fs ps gs qs)) H
/-- the lags from a tick on -/
def runL (d : Nat → Int) (x : Int) (t n : Nat) : List Int := (List.range n).map fun k => run d x t (k + 1)
theorem runL_len (d : Nat → Int) (x : Int) (t n : Nat) : (runL d x t n).length = n := by unfold runL; simp
theorem runL_succ (d : Nat → Int) (x : Int) (t n : Nat) : runL d x t (n + 1) = runL d x t n ++ [run d x t (n + 1)] := by
  unfold runL
  rw [List.range_succ, List.map_append]; rfl
theorem runL_lags (F R : Nat → Int) (n : Nat) : runL (fun i => F i - R i) 0 0 n = lagsL F R n := by
  unfold runL lagsL
  refine List.map_congr_left fun k _ => ?_
  have := pre_run F R 0 (k + 1)
  rw [Nat.zero_add] at this
  exact this.symm
def diff (fs ps gs qs : List Int) : Nat → Int := fun i => at_ fs ps i - at_ gs qs i
def spFrom (c : Cs) : Sp := fun vs H Q _ => ∃ (p q : Addr) (fs ps gs qs : List Int) (x : Int) (t n : Nat), vs = [.ref p, .ref q, .int x, .int t, .int n] ∧ Both c H p q fs ps gs qs ∧ n ≤ 2000 ∧ t ≤ 1000000 ∧
  ∀ H' l, Same H H' → H' l = some (.lst ((runL (diff fs ps gs qs) x t n).map V.int)) → Q (.ref l) H'
def spLags (c : Cs) : Sp := fun vs H Q _ => ∃ (p q : Addr) (fs ps gs qs : List Int) (n : Nat), vs = [.ref p, .ref q, .int n] ∧ Both c H p q fs ps gs qs ∧ n ≤ 2000 ∧
  ∀ H' l, Same H H' → H' l = some (.lst ((lagsL (at_ fs ps) (at_ gs qs) n).map V.int)) → Q (.ref l) H'
/-- a greatest lag and its first tick -/
abbrev Top (fs ps gs qs : List Int) (m : Int) (j : Nat) : Prop := First (fun t => pre (at_ fs ps) (at_ gs qs) (t + 1)) m j
def spGL (c : Cs) : Sp := fun vs H Q _ => ∃ (p q : Addr) (fs ps gs qs : List Int), vs = [.ref p, .ref q] ∧ Both c H p q fs ps gs qs ∧
  (0 < growth fs ps gs qs → ∀ H' r dx, Same H H' → H' r = some (.ins c.grow dx (rF "period" "growth" (.int (perN ps qs)) (.int (growth fs ps gs qs)))) → Q (.ref r) H') ∧
  (growth fs ps gs qs ≤ 0 → ∀ H' r dx m (j : Nat), Same H H' → H' r = some (.ins c.lag dx (rF "number" "tick" (.int m) (.int j))) → Top fs ps gs qs m j → j < ticksN fs ps gs qs → Q (.ref r) H')
section
variable {P : Program} {w : World} {K : PySem.W.Frag} {mg : Str → Option Value} {base : Heap} {c : Cs}
/-! ### results are made -/
theorem same_made {H H' : Hp} {x dx C : Addr} (nx : H x = none) (nd : H dx = none) (o : Off x (upd (upd H dx (.own x)) x (.ins C dx [])) H') : Same H H' := fun b u z =>
  o _ _ (by rw [upd_ne (ne_of_none z nx), upd_ne (ne_of_none z nd)]; exact z) (ne_of_none z nx)
abbrev sLagI : Stmt := inClass (top 15) 0
theorem scLagI : FnScope ["self", "number", "tick"] ["self", "number", "tick"] (defScope sLagI) := ⟨rfl, rfl, rfl, by decide +kernel, rfl, by decide +kernel, by decide +kernel⟩
theorem ok_lagI {f : Addr} {fd : FuncData} (F : Fun K "__init__" "Lag.__init__" sLagI f fd) (T : Txt P w K mg base c) : FnOk P w K mg base CX0 1 f fd ["self", "number", "tick"] (spR2 c.lag "number" "tick") := by
  refine F.ok scLagI (fun vs H Q E h => ?_) (fun cdv A outer s H vs Q E hr h => ?_)
  · obtain ⟨p, dx, u, v, rfl, _⟩ := h
    rfl
  · obtain ⟨p, dx, u, v, rfl, hp, k⟩ := h
    refine ⟨_, (pss_cons (ps_fld (pv 0) (pv 1) rfl)
      (pss_one (ps_fld (pv 0) (pv 2) rfl))), ?_⟩
    refine into_fld ⟨_, rfl, _, rfl, p, _, dx, _, rfl, hp, T.Lag.cl, T.n_lnumber, by decide, last_fld ⟨_, rfl, _, rfl, p, _, dx, _, rfl, upd_same, T.Lag.cl, T.n_ltick, (show (1 : Nat) < 1000 by decide), k _ (Off.upd.trans Off.upd) upd_same⟩⟩
abbrev sGroI : Stmt := inClass (top 16) 0
theorem scGroI : FnScope ["self", "period", "growth"] ["self", "period", "growth"] (defScope sGroI) := ⟨rfl, rfl, rfl, by decide +kernel, rfl, by decide +kernel, by decide +kernel⟩
theorem ok_groI {f : Addr} {fd : FuncData} (F : Fun K "__init__" "Growing.__init__" sGroI f fd) (T : Txt P w K mg base c) : FnOk P w K mg base CX0 1 f fd ["self", "period", "growth"] (spR2 c.grow "period" "growth") := by
  refine F.ok scGroI (fun vs H Q E h => ?_) (fun cdv A outer s H vs Q E hr h => ?_)
  · obtain ⟨p, dx, u, v, rfl, _⟩ := h
    rfl
  · obtain ⟨p, dx, u, v, rfl, hp, k⟩ := h
    refine ⟨_, (pss_cons (ps_fld (pv 0) (pv 1) rfl)
      (pss_one (ps_fld (pv 0) (pv 2) rfl))), ?_⟩
    refine into_fld ⟨_, rfl, _, rfl, p, _, dx, _, rfl, hp, T.Growing.cl, T.n_gperiod, by decide, last_fld ⟨_, rfl, _, rfl, p, _, dx, _, rfl, upd_same, T.Growing.cl, T.n_ggrowth, (show (1 : Nat) < 1000 by decide), k _ (Off.upd.trans Off.upd) upd_same⟩⟩
abbrev sRatI : Stmt := inClass (top 30) 0
theorem scRatI : FnScope ["self", "number", "tick"] ["self", "number", "tick"] (defScope sRatI) := ⟨rfl, rfl, rfl, by decide +kernel, rfl, by decide +kernel, by decide +kernel⟩
theorem ok_ratI {f : Addr} {fd : FuncData} (F : Fun K "__init__" "Rate.__init__" sRatI f fd) (T : Txt P w K mg base c) : FnOk P w K mg base CX0 1 f fd ["self", "number", "tick"] (spR2 c.rate "number" "tick") := by
  refine F.ok scRatI (fun vs H Q E h => ?_) (fun cdv A outer s H vs Q E hr h => ?_)
  · obtain ⟨p, dx, u, v, rfl, _⟩ := h
    rfl
  · obtain ⟨p, dx, u, v, rfl, hp, k⟩ := h
    refine ⟨_, (pss_cons (ps_fld (pv 0) (pv 1) rfl)
      (pss_one (ps_fld (pv 0) (pv 2) rfl))), ?_⟩
    refine into_fld ⟨_, rfl, _, rfl, p, _, dx, _, rfl, hp, T.Rate.cl, T.n_rnumber, by decide, last_fld ⟨_, rfl, _, rfl, p, _, dx, _, rfl, upd_same, T.Rate.cl, T.n_rtick, (show (1 : Nat) < 1000 by decide), k _ (Off.upd.trans Off.upd) upd_same⟩⟩
abbrev sKeeI : Stmt := inClass (top 27) 0
theorem scKeeI : FnScope ["self", "rows", "tick", "group"] ["self", "rows", "tick", "group"] (defScope sKeeI) := ⟨rfl, rfl, rfl, by decide +kernel, rfl, by decide +kernel, by decide +kernel⟩
theorem ok_keeI {f : Addr} {fd : FuncData} (F : Fun K "__init__" "Keep.__init__" sKeeI f fd) (T : Txt P w K mg base c) : FnOk P w K mg base CX0 1 f fd ["self", "rows", "tick", "group"] (spK3 c.keep) := by
  refine F.ok scKeeI (fun vs H Q E h => ?_) (fun cdv A outer s H vs Q E hr h => ?_)
  · obtain ⟨p, dx, u, v, z, rfl, _⟩ := h
    rfl
  · obtain ⟨p, dx, u, v, z, rfl, hp, k⟩ := h
    refine ⟨_, (pss_cons (ps_fld (pv 0) (pv 1) rfl)
      (pss_cons (ps_fld (pv 0) (pv 2) rfl)
      (pss_one (ps_fld (pv 0) (pv 3) rfl)))), ?_⟩
    refine into_fld ⟨_, rfl, _, rfl, p, _, dx, _, rfl, hp, T.Keep.cl, T.n_krows, by decide, into_fld ⟨_, rfl, _, rfl, p, _, dx, _, rfl, upd_same, T.Keep.cl, T.n_ktick, (show (1 : Nat) < 1000 by decide), last_fld ⟨_, rfl, _, rfl, p, _, dx, _, rfl, upd_same, T.Keep.cl, T.n_kgroup, (show (2 : Nat) < 1000 by decide), k _ ((Off.upd.trans Off.upd).trans Off.upd) upd_same⟩⟩⟩
/-! ### what they are as truth -/
abbrev sLagB : Stmt := inClass (top 15) 2
theorem scLagB : FnScope ["self"] ["self"] (defScope sLagB) := ⟨rfl, rfl, rfl, by decide +kernel, rfl, by decide +kernel, by decide +kernel⟩
theorem ok_lagB {f : Addr} {fd : FuncData} (F : Fun K "__bool__" "Lag.__bool__" sLagB f fd) : FnOk P w K mg base CX0 1 f fd ["self"] (spSays true) := by
  refine F.ok scLagB (fun vs H Q E h => ?_) (fun cdv A outer s H vs Q E hr h => ?_)
  · obtain ⟨⟨p, rfl⟩, _⟩ := h
    rfl
  · obtain ⟨⟨p, rfl⟩, k⟩ := h
    exact ⟨_, (pss_one (ps_ret pe_bl)), k⟩
abbrev sGroB : Stmt := inClass (top 16) 2
theorem scGroB : FnScope ["self"] ["self"] (defScope sGroB) := ⟨rfl, rfl, rfl, by decide +kernel, rfl, by decide +kernel, by decide +kernel⟩
theorem ok_groB {f : Addr} {fd : FuncData} (F : Fun K "__bool__" "Growing.__bool__" sGroB f fd) : FnOk P w K mg base CX0 1 f fd ["self"] (spSays false) := by
  refine F.ok scGroB (fun vs H Q E h => ?_) (fun cdv A outer s H vs Q E hr h => ?_)
  · obtain ⟨⟨p, rfl⟩, _⟩ := h
    rfl
  · obtain ⟨⟨p, rfl⟩, k⟩ := h
    exact ⟨_, (pss_one (ps_ret pe_bl)), k⟩
abbrev sKeeB : Stmt := inClass (top 27) 2
theorem scKeeB : FnScope ["self"] ["self"] (defScope sKeeB) := ⟨rfl, rfl, rfl, by decide +kernel, rfl, by decide +kernel, by decide +kernel⟩
theorem ok_keeB {f : Addr} {fd : FuncData} (F : Fun K "__bool__" "Keep.__bool__" sKeeB f fd) : FnOk P w K mg base CX0 1 f fd ["self"] (spSays true) := by
  refine F.ok scKeeB (fun vs H Q E h => ?_) (fun cdv A outer s H vs Q E hr h => ?_)
  · obtain ⟨⟨p, rfl⟩, _⟩ := h
    rfl
  · obtain ⟨⟨p, rfl⟩, k⟩ := h
    exact ⟨_, (pss_one (ps_ret pe_bl)), k⟩
/-! ### a timetable is made -/
abbrev sTI : Stmt := inClass (top 10) 0
theorem scTI : FnScope ["self", "front", "period"] ["self", "front", "period"] (defScope sTI) := ⟨rfl, rfl, rfl, by decide +kernel, rfl, by decide +kernel, by decide +kernel⟩
theorem ok_tI {f fA : Addr} {fd fdA : FuncData} (F : Fun K "__init__" "Times.__init__" sTI f fd) (T : Txt P w K mg base c) (A_are_numbers : At K mg "are_numbers" fA) (G_are_numbers : FnOk P w K mg base CX0 2 fA fdA ["rows"] (spAre K)) (b_are_numbers : Binds K fdA ["rows"] []) :
    FnOk P w K mg base CX0 3 f fd ["self", "front", "period"] (spTInit c) := by
  refine F.ok scTI (fun vs H Q E h => ?_) (fun cdv A outer s H vs Q E hr h => ?_)
  · obtain ⟨p, dx, a, b, fs, ps, rfl, _⟩ := h
    rfl
  · obtain ⟨p, dx, a, b, fs, ps, rfl, hp, ha, hb, good, k⟩ := h
    have hr_are_numbers : Room 2 _ := hr
    refine ⟨_, (pss_cons (ps_if (PW.pt (pw_or (pt_not (pt_val (pe_call G_are_numbers hr_are_numbers (by rfl) A_are_numbers.g A_are_numbers.k b_are_numbers .nil pass0 (pa_cons (pv 1) pa_nil)))) (pw_or (pt_not (pt_val (pe_call G_are_numbers hr_are_numbers (by rfl) A_are_numbers.g A_are_numbers.k b_are_numbers .nil pass0 (pa_cons (pv 2) pa_nil)))) (pw_or1 (pt_not (pt_truth (pv 2) (by intro _; rfl)))))))
        (pss_one (ps_never))
        pss_nil)
      (pss_cons (ps_fld (pv 0) (pe_callTy call_list_of (by rfl) T.list (by decide +kernel) (pa_cons (pv 1) pa_nil)) rfl)
      (pss_one (ps_fld (pv 0) (pe_callTy call_list_of (by rfl) T.list (by decide +kernel) (pa_cons (pv 2) pa_nil)) rfl)))), ?_⟩
    refine ⟨_, rfl, a, fs, rfl, ha, good.few, fun x h => good.low x (List.mem_append_left _ h), fun x h => good.high x (List.mem_append_left _ h), fun H1 e1 => ⟨_, rfl, iteF ?_⟩⟩
    refine ⟨_, rfl, b, ps, rfl, e1 _ _ hb, good.few', fun x h => good.low x (List.mem_append_right _ h), fun x h => good.high x (List.mem_append_right _ h), fun H2 e2 => ⟨_, rfl, iteF ?_⟩⟩
    have ne : ((ps.map V.int).isEmpty) = false := by
      have := good.pos
      cases ps with
      | nil => simp at this
      | cons _ _ => rfl
    have e := e1.trans e2
    refine ⟨_, rfl, true, .inl ⟨_, SqL.of (e _ _ hb), by rw [ne]; rfl⟩, iteF ?_⟩
    unfold tNext
    dsimp only
    refine into_fld ⟨_, rfl, a, _, rfl, .inl (SqL.of (e _ _ ha)), fun l nl => ⟨_, rfl, p, _, dx, _, rfl, made nl _ _ (e _ _ hp), T.Times.cl, T.n_front, by decide, ?_⟩⟩
    have hb2 : (upd H2 l (.lst (fs.map V.int))) b = some (.lst (ps.map V.int)) := made nl _ _ (e _ _ hb)
    have o3 : Off p H (upd (upd H2 l (.lst (fs.map V.int))) p (.ins c.times dx (putF "front" (.ref l) []))) := (Off.same (e.trans (made nl))).trans Off.upd
    have pl : l ≠ p := fun z => by rw [z, e _ _ hp] at nl; cases nl
    have hl3 : (upd (upd H2 l (.lst (fs.map V.int))) p (.ins c.times dx (putF "front" (.ref l) []))) l = some (.lst (fs.map V.int)) := by rw [upd_ne pl, upd_same]
    have hp3 : (upd (upd H2 l (.lst (fs.map V.int))) p (.ins c.times dx (putF "front" (.ref l) []))) p = some (.ins c.times dx (putF "front" (.ref l) [])) := upd_same
    generalize upd (upd H2 l (.lst (fs.map V.int))) p (.ins c.times dx (putF "front" (.ref l) [])) = H3 at o3 hl3 hp3
    have nb : b ≠ p := ne_of hb hp (by intro z; cases z)
    refine last_fld ⟨_, rfl, b, _, rfl, .inl (SqL.of (o3 _ _ hb nb)), fun l2 nl2 => ⟨_, rfl, p, _, dx, _, rfl, made nl2 _ _ hp3, T.Times.cl, T.n_period, (show (1 : Nat) < 1000 by decide), ?_⟩⟩
    have pl2 : l2 ≠ p := fun z => by rw [z, hp3] at nl2; cases nl2
    have f2 : H l2 = none := by
      cases hq : H l2 with
      | none => rfl
      | some u => have := o3 _ _ hq pl2; rw [nl2] at this; cases this
    refine k _ dx l l2 ((o3.trans (Off.same (made nl2))).trans Off.upd) upd_same ?_ ?_ (e.free nl) f2
    · rw [upd_ne pl]; exact made nl2 _ _ hl3
    · rw [upd_ne pl2, upd_same]
/-! ### growth, ticks, lags -/
abbrev sGrow : Stmt := top 19
theorem scGrow : FnScope ["fed", "read", "length"] ["fed", "read"] (defScope sGrow) := ⟨rfl, rfl, rfl, by decide +kernel, rfl, by decide +kernel, by decide +kernel⟩
theorem ok_grow {f fP : Addr} {fd fdP : FuncData} (F : Fun K "growth_of" "growth_of" sGrow f fd) (T : Txt P w K mg base c) (A_common_period : At K mg "common_period" fP) (G_common_period : FnOk P w K mg base CX0 1 fP fdP ["one", "other"] (spPer c)) (b_common_period : Binds K fdP ["one", "other"] []) :
    FnOk P w K mg base CX0 2 f fd ["fed", "read"] (spGrow c) := by
  refine F.ok scGrow (fun vs H Q E h => ?_) (fun cdv A outer s H vs Q E hr h => ?_)
  · obtain ⟨p, q, fs, ps, gs, qs, rfl, _⟩ := h
    rfl
  · obtain ⟨p, q, fs, ps, gs, qs, rfl, B, k⟩ := h
    have nd := scGrow.nd
    have hr_common_period : Room 1 _ := hr
    obtain ⟨dx, a, b, hp, ha, hb⟩ := B.one
    obtain ⟨dy, a', b', hq, ha', hb'⟩ := B.two
    refine ⟨_, (pss_cons (ps_set (i := 2) nd rfl (Or.inl rfl) (pe_call G_common_period hr_common_period (by rfl) A_common_period.g A_common_period.k b_common_period .nil pass0 (pa_cons (pv 0) (pa_cons (pv 1) pa_nil))))
      (pss_one (ps_ret (pe_op op_sub (pe_op op_mul (pe_callB (cr_sum rfl) (by rfl) T.sum (by decide +kernel) (pa_cons (pe_fld (pv 0) rfl) pa_nil)) (pe_op op_fdiv (pv 2) (pe_callB call_len_seq (by rfl) T.len PySem.boot_len (pa_cons (pe_fld (pv 0) rfl) pa_nil)))) (pe_op op_mul (pe_callB (cr_sum rfl) (by rfl) T.sum (by decide +kernel) (pa_cons (pe_fld (pv 1) rfl) pa_nil)) (pe_op op_fdiv (pv 2) (pe_callB call_len_seq (by rfl) T.len PySem.boot_len (pa_cons (pe_fld (pv 1) rfl) pa_nil)))))))), ?_⟩
    refine ⟨_, rfl, _, rfl, p, q, fs, ps, gs, qs, rfl, B.one, B.two, B.g1, B.g2, ?_⟩
    have P1 := perN_le B.g1 B.g2
    have d1 : (0 : Int) ≤ (perN ps qs : Int) / (ps.length : Int) ∧ (perN ps qs : Int) / (ps.length : Int) ≤ perN ps qs := ⟨Int.ediv_nonneg (by omega) (by omega), Int.ediv_le_self _ (by omega)⟩
    have d2 : (0 : Int) ≤ (perN ps qs : Int) / (qs.length : Int) ∧ (perN ps qs : Int) / (qs.length : Int) ≤ perN ps qs := ⟨Int.ediv_nonneg (by omega) (by omega), Int.ediv_le_self _ (by omega)⟩
    have l1 := B.g1.few'
    have l2 := B.g2.few'
    have n1 := B.g1.pos
    have n2 := B.g2.pos
    rw [show Nat.lcm ps.length qs.length = perN ps qs from rfl]
    refine ⟨_, rfl, p, _, dx, _, _, rfl, hp, T.Times.cl, T.n_period, lk_period, b, ps, rfl, SqL.of hb, _, rfl, _, rfl, p, _, dx, _, _, rfl, hp, T.Times.cl, T.n_period, lk_period, b, _, rfl, .inl (SqL.of hb), _, _, rfl, rfl, ?_, _, _, rfl, rfl, .inr ?_, ?_⟩
    · rw [List.length_map]; exact ⟨by omega, by omega⟩
    · rw [List.length_map]; exact ⟨by omega, by omega⟩
    · rw [List.length_map]
      refine ⟨_, rfl, q, _, dy, _, _, rfl, hq, T.Times.cl, T.n_period, lk_period, b', qs, rfl, SqL.of hb', _, rfl, _, rfl, q, _, dy, _, _, rfl, hq, T.Times.cl, T.n_period, lk_period, b', _, rfl, .inl (SqL.of hb'), _, _, rfl, rfl, ?_, _, _, rfl, rfl, .inr ?_, _, _, rfl, rfl, ?_⟩
      · rw [List.length_map]; exact ⟨by omega, by omega⟩
      · rw [List.length_map]; exact ⟨by omega, by omega⟩
      · rw [List.length_map]
        show Q (.int (ps.sum * ((perN ps qs : Int) / (ps.length : Int)) - qs.sum * ((perN ps qs : Int) / (qs.length : Int)))) H
        rw [growth_eq B.g1 B.g2]
        exact k
abbrev sTicks : Stmt := top 20
theorem scTicks : FnScope ["fed", "read"] ["fed", "read"] (defScope sTicks) := ⟨rfl, rfl, rfl, by decide +kernel, rfl, by decide +kernel, by decide +kernel⟩
theorem ok_ticks {f fF fP : Addr} {fd fdF fdP : FuncData} (F : Fun K "enough_ticks" "enough_ticks" sTicks f fd) (A_common_front : At K mg "common_front" fF) (G_common_front : FnOk P w K mg base CX0 1 fF fdF ["one", "other"] (spFront c)) (b_common_front : Binds K fdF ["one", "other"] [])
    (A_common_period : At K mg "common_period" fP) (G_common_period : FnOk P w K mg base CX0 1 fP fdP ["one", "other"] (spPer c)) (b_common_period : Binds K fdP ["one", "other"] []) :
    FnOk P w K mg base CX0 2 f fd ["fed", "read"] (spTicks c) := by
  refine F.ok scTicks (fun vs H Q E h => ?_) (fun cdv A outer s H vs Q E hr h => ?_)
  · obtain ⟨p, q, fs, ps, gs, qs, rfl, _⟩ := h
    rfl
  · obtain ⟨p, q, fs, ps, gs, qs, rfl, B, k⟩ := h
    have hr_common_period : Room 1 _ := hr
    have hr_common_front : Room 1 _ := hr
    refine ⟨_, (pss_one (ps_ret (pe_op op_add (pe_call G_common_front hr_common_front (by rfl) A_common_front.g A_common_front.k b_common_front .nil pass0 (pa_cons (pv 0) (pa_cons (pv 1) pa_nil))) (pe_op op_mul pe_int (pe_call G_common_period hr_common_period (by rfl) A_common_period.g A_common_period.k b_common_period .nil pass0 (pa_cons (pv 0) (pa_cons (pv 1) pa_nil))))))), ?_⟩
    refine ⟨_, rfl, _, rfl, p, q, fs, ps, gs, qs, rfl, B.one, B.two, ?_⟩
    refine ⟨_, rfl, _, rfl, p, q, fs, ps, gs, qs, rfl, B.one, B.two, B.g1, B.g2, _, _, rfl, rfl, .inl ⟨by decide, by decide⟩, _, _, rfl, rfl, ?_⟩
    exact k
abbrev sFrom : Stmt := top 22
abbrev nFrom : List Str := ["fed", "read", "lag", "first", "many", "found", "tick"]
theorem scFrom : FnScope nFrom ["fed", "read", "lag", "first", "many"] (defScope sFrom) := ⟨rfl, rfl, rfl, by decide +kernel, rfl, by decide +kernel, by decide +kernel⟩
theorem lagsL_succ (F R : Nat → Int) (n : Nat) : lagsL F R (n + 1) = lagsL F R n ++ [pre F R (n + 1)] := by
  unfold lagsL
  rw [List.range_succ, List.map_append]; rfl
theorem lagsL_len (F R : Nat → Int) (n : Nat) : (lagsL F R n).length = n := by
  unfold lagsL
  rw [List.length_map, List.length_range]
theorem ok_from {f fA : Addr} {fd fdA : FuncData} (F : Fun K "lags_from" "lags_from" sFrom f fd) (T : Txt P w K mg base c) (A_number_at : At K mg "number_at" fA) (G_number_at : FnOk P w K mg base CX0 1 fA fdA ["times", "tick"] (spAt c)) (b_number_at : Binds K fdA ["times", "tick"] []) :
    FnOk P w K mg base CX0 2 f fd ["fed", "read", "lag", "first", "many"] (spFrom c) := by
  refine F.ok scFrom (fun vs H Q E h => ?_) (fun cdv A outer s H vs Q E hr h => ?_)
  · obtain ⟨p, q, fs, ps, gs, qs, x, t, n, rfl, _⟩ := h
    rfl
  · obtain ⟨p, q, fs, ps, gs, qs, x, t, n, rfl, B, few, far, k⟩ := h
    have nd := scFrom.nd
    have hr_number_at : Room 1 _ := hr
    refine ⟨_, (pss_cons (ps_set (i := 5) nd rfl (Or.inl rfl) (pe_lst pa_nil))
      (pss_cons (ps_for PassesOwn.never rfl (pi_range2 (by rfl) T.range (pa_cons (pv 3) (pa_cons (pe_op op_add (pv 3) (pv 4)) pa_nil))) (pg_name (i := 6) nd rfl (Or.inl rfl))
        (pss_cons (ps_set (i := 2) nd rfl (Or.inl rfl) (pe_callB (call_max2 rfl) (by rfl) T.max (by decide +kernel) (pa_cons pe_int (pa_cons (pe_op op_sub (pe_op op_add (pv 2) (pe_call G_number_at hr_number_at (by rfl) A_number_at.g A_number_at.k b_number_at .nil pass0 (pa_cons (pv 0) (pa_cons (pv 6) pa_nil)))) (pe_call G_number_at hr_number_at (by rfl) A_number_at.g A_number_at.k b_number_at .nil pass0 (pa_cons (pv 1) (pa_cons (pv 6) pa_nil)))) pa_nil))))
        (pss_one (ps_expr (pe_bm PySem.F.plainAttrs_list PySem.F.slot_list_append PySem.F.type_list_append mt_append (pv 5) (pa_cons (pv 2) pa_nil))))))
      (pss_one (ps_ret (pv 5))))), ?_⟩
    refine into ⟨Nat.zero_le _, fun l nl => ?_⟩
    refine into ⟨_, rfl, _, rfl, _, rfl, _, _, rfl, rfl, (t : Int), (t : Int) + (n : Int), rfl, ⟨by omega, by omega, by omega, by omega⟩, ?_⟩
    rw [show ((t : Int) + (n : Int) - (t : Int)).toNat = n by omega]
    refine for_range (lo := (t : Int)) (n := n) (fun j σ H' => ∃ v : Option V, σ = [some (V.ref p), some (V.ref q), some (V.int (run (diff fs ps gs qs) x t j)), some (V.int t), some (V.int n), some (V.ref l), v] ∧ Same H H' ∧ H' l = some (.lst ((runL (diff fs ps gs qs) x t j).map V.int))) ⟨none, rfl, made nl, upd_same⟩ ?_ ?_
    · rintro j σ H' hj ⟨v, rfl, e, hl⟩
      have B' := B.same e
      refine into ⟨_, rfl, _, rfl, _, rfl, p, fs, ps, t + j, by rw [Int.natCast_add]; rfl, B'.one, B'.g1, _, _, rfl, rfl, _, rfl, _, rfl, q, gs, qs, t + j, by rw [Int.natCast_add]; rfl, B'.two, B'.g2, _, _, rfl, rfl, _, _, rfl, ?_⟩
      have step : (if run (diff fs ps gs qs) x t j + at_ fs ps (t + j) - at_ gs qs (t + j) > 0 then run (diff fs ps gs qs) x t j + at_ fs ps (t + j) - at_ gs qs (t + j) else 0) = run (diff fs ps gs qs) x t (j + 1) := by
        show _ = max 0 (run (diff fs ps gs qs) x t j + (at_ fs ps (t + j) - at_ gs qs (t + j)))
        split <;> omega
      refine ⟨_, rfl, .inl ⟨rfl, _, SqL.of hl⟩, _, rfl, l, _, _, rfl, rfl, hl, by rw [List.length_map, runL_len, sizeLine_eq]; omega, some (.int ((t : Int) + (j : Int))), ?_, put_in e nl, ?_⟩
      · rw [step]; rfl
      · rw [upd_same, step, runL_succ, List.map_append]; rfl
    · rintro σ H' ⟨v, rfl, e, hl⟩
      exact ⟨_, rfl, k _ _ e hl⟩
abbrev sLags : Stmt := top 21
theorem scLags : FnScope ["fed", "read", "many"] ["fed", "read", "many"] (defScope sLags) := ⟨rfl, rfl, rfl, by decide +kernel, rfl, by decide +kernel, by decide +kernel⟩
theorem ok_lags {f fF : Addr} {fd fdF : FuncData} (F : Fun K "lags" "lags" sLags f fd) (A_lags_from : At K mg "lags_from" fF) (G_lags_from : FnOk P w K mg base CX0 2 fF fdF ["fed", "read", "lag", "first", "many"] (spFrom c)) (b_lags_from : Binds K fdF ["fed", "read", "lag", "first", "many"] []) :
    FnOk P w K mg base CX0 3 f fd ["fed", "read", "many"] (spLags c) := by
  refine F.ok scLags (fun vs H Q E h => ?_) (fun cdv A outer s H vs Q E hr h => ?_)
  · obtain ⟨p, q, fs, ps, gs, qs, n, rfl, _⟩ := h
    rfl
  · obtain ⟨p, q, fs, ps, gs, qs, n, rfl, B, few, k⟩ := h
    have hr_lags_from : Room 2 _ := hr
    refine ⟨_, (pss_one (ps_ret (pe_call G_lags_from hr_lags_from (by rfl) A_lags_from.g A_lags_from.k b_lags_from .nil pass0 (pa_cons (pv 0) (pa_cons (pv 1) (pa_cons pe_int (pa_cons pe_int (pa_cons (pv 2) pa_nil)))))))), ?_⟩
    exact ⟨_, rfl, _, rfl, _, rfl, p, q, fs, ps, gs, qs, 0, 0, n, rfl, B, few, by omega, fun H' l e hl => k H' l e (by rw [← runL_lags]; exact hl)⟩
theorem first_at : ∀ {xs : List Int} {m : Int}, m ∈ xs → ∃ j : Nat, xs[j]? = some m ∧ ∀ i, i < j → ¬ xs[i]? = some m
  | [], m, h => by cases h
  | x :: xs, m, h => by
    rcases Decidable.em (x = m) with rfl | ne
    · exact ⟨0, rfl, fun i h => absurd h (Nat.not_lt_zero i)⟩
    · rcases List.mem_cons.mp h with rfl | h
      · exact absurd rfl ne
      · obtain ⟨j, hj, first⟩ := first_at h
        refine ⟨j + 1, hj, fun i hi => ?_⟩
        cases i with
        | zero => exact fun e => ne (Option.some.inj e)
        | succ i => exact first i (by omega)
theorem all_flat (xs : List Int) : (xs.map V.int).all flatV = true := by
  induction xs with
  | nil => rfl
  | cons x xs ih => rw [List.map_cons, List.all_cons, ih]; rfl
abbrev sGL : Stmt := top 18
abbrev nGL : List Str := ["fed", "read", "growth", "found", "number"]
theorem scGL : FnScope nGL ["fed", "read"] (defScope sGL) := ⟨rfl, rfl, rfl, by decide +kernel, rfl, by decide +kernel, by decide +kernel⟩
theorem ok_gl {f fC fG fP fL fT fI fJ : Addr} {fd fdC fdG fdP fdL fdT fdI fdJ : FuncData} (F : Fun K "greatest_lag" "greatest_lag" sGL f fd) (T : Txt P w K mg base c)
    (A_check_times : At K mg "check_times" fC) (G_check_times : FnOk P w K mg base CX0 1 fC fdC ["times"] (spCheck c)) (b_check_times : Binds K fdC ["times"] [])
    (A_growth_of : At K mg "growth_of" fG) (G_growth_of : FnOk P w K mg base CX0 2 fG fdG ["fed", "read"] (spGrow c)) (b_growth_of : Binds K fdG ["fed", "read"] [])
    (A_common_period : At K mg "common_period" fP) (G_common_period : FnOk P w K mg base CX0 1 fP fdP ["one", "other"] (spPer c)) (b_common_period : Binds K fdP ["one", "other"] [])
    (A_lags : At K mg "lags" fL) (G_lags : FnOk P w K mg base CX0 3 fL fdL ["fed", "read", "many"] (spLags c)) (b_lags : Binds K fdL ["fed", "read", "many"] [])
    (A_enough_ticks : At K mg "enough_ticks" fT) (G_enough_ticks : FnOk P w K mg base CX0 2 fT fdT ["fed", "read"] (spTicks c)) (b_enough_ticks : Binds K fdT ["fed", "read"] [])
    (M_Growing : Mk K c.grow fI) (G_Growing : FnOk P w K mg base CX0 1 fI fdI ["self", "period", "growth"] (spR2 c.grow "period" "growth")) (b_Growing : Binds K fdI ["self", "period", "growth"] [])
    (M_Lag : Mk K c.lag fJ) (G_Lag : FnOk P w K mg base CX0 1 fJ fdJ ["self", "number", "tick"] (spR2 c.lag "number" "tick")) (b_Lag : Binds K fdJ ["self", "number", "tick"] []) :
    FnOk P w K mg base CX0 4 f fd ["fed", "read"] (spGL c) := by
  refine F.ok scGL (fun vs H Q E h => ?_) (fun cdv A outer s H vs Q E hr h => ?_)
  · obtain ⟨p, q, fs, ps, gs, qs, rfl, _⟩ := h
    rfl
  · obtain ⟨p, q, fs, ps, gs, qs, rfl, B, k1, k2⟩ := h
    have nd := scGL.nd
    have hr_check_times : Room 1 _ := hr.mono (by decide)
    have hr_growth_of : Room 2 _ := hr.mono (by decide)
    have hr_common_period : Room 1 _ := hr.mono (by decide)
    have hr_lags : Room 3 _ := hr
    have hr_enough_ticks : Room 2 _ := hr.mono (by decide)
    have hr_Growing : Room 2 _ := hr.mono (by decide)
    have hr_Lag : Room 2 _ := hr.mono (by decide)
    refine ⟨_, (pss_cons (ps_expr (pe_call G_check_times hr_check_times (by rfl) A_check_times.g A_check_times.k b_check_times .nil pass0 (pa_cons (pv 0) pa_nil)))
      (pss_cons (ps_expr (pe_call G_check_times hr_check_times (by rfl) A_check_times.g A_check_times.k b_check_times .nil pass0 (pa_cons (pv 1) pa_nil)))
      (pss_cons (ps_set (i := 2) nd rfl (Or.inl rfl) (pe_call G_growth_of hr_growth_of (by rfl) A_growth_of.g A_growth_of.k b_growth_of .nil pass0 (pa_cons (pv 0) (pa_cons (pv 1) pa_nil))))
      (pss_cons (ps_if (pt_cmpR op_gt (pv 2) pe_int (nomark _))
        (pss_one (ps_ret (pe_make M_Growing G_Growing hr_Growing (by rfl) T.Growing.g b_Growing .nil pass0 (pa_cons (pe_call G_common_period hr_common_period (by rfl) A_common_period.g A_common_period.k b_common_period .nil pass0 (pa_cons (pv 0) (pa_cons (pv 1) pa_nil))) (pa_cons (pv 2) pa_nil)))))
        pss_nil)
      (pss_cons (ps_set (i := 3) nd rfl (Or.inl rfl) (pe_call G_lags hr_lags (by rfl) A_lags.g A_lags.k b_lags .nil pass0 (pa_cons (pv 0) (pa_cons (pv 1) (pa_cons (pe_call G_enough_ticks hr_enough_ticks (by rfl) A_enough_ticks.g A_enough_ticks.k b_enough_ticks .nil pass0 (pa_cons (pv 0) (pa_cons (pv 1) pa_nil))) pa_nil)))))
      (pss_cons (ps_set (i := 4) nd rfl (Or.inl rfl) (pe_callB (cr_max rfl) (by rfl) T.max (by decide +kernel) (pa_cons (pv 3) pa_nil)))
      (pss_one (ps_ret (pe_make M_Lag G_Lag hr_Lag (by rfl) T.Lag.g b_Lag .nil pass0 (pa_cons (pv 4) (pa_cons (pe_bm PySem.F.plainAttrs_list PySem.F.slot_list_index PySem.F.type_list_index mt_index (pv 3) (pa_cons (pv 4) pa_nil)) pa_nil))))))))))), ?_⟩
    refine into ⟨_, rfl, p, fs, ps, rfl, B.one, into ⟨_, rfl, q, gs, qs, rfl, B.two, ?_⟩⟩
    refine into ⟨_, rfl, _, rfl, p, q, fs, ps, gs, qs, rfl, B, ?_⟩
    refine into ⟨_, rfl, _, _, rfl, rfl, _, rfl, ?_⟩
    have W := two_of B.g1 B.g2
    rcases Decidable.em (growth fs ps gs qs > 0) with c1 | c1
    · rw [decide_eq_true c1]
      refine iteT ⟨_, rfl, _, rfl, p, q, fs, ps, gs, qs, rfl, B.one, B.two, B.g1, B.g2, _, rfl, fun x dx nx nd ne => ⟨x, dx, _, _, rfl, upd_same, fun H' o hx => ⟨rfl, ?_⟩⟩⟩
      exact k1 c1 H' x dx (same_made nx nd o) hx
    · rw [decide_eq_false c1]
      refine iteF ?_
      unfold tNext
      dsimp only
      have few := ticksN_le B.g1 B.g2
      refine into ⟨_, rfl, _, rfl, _, rfl, _, rfl, p, q, fs, ps, gs, qs, rfl, B, p, q, fs, ps, gs, qs, _, rfl, B, few, fun H1 l e1 hl => ?_⟩
      refine into ⟨_, rfl, l, _, rfl, SqL.of hl, ?_, fun m mem all => ?_⟩
      · rw [lagsL_len]
        have := W.pos
        unfold ticksN; omega
      · obtain ⟨j, hj, first⟩ := first_at mem
        have flat : ((lagsL (at_ fs ps) (at_ gs qs) (ticksN fs ps gs qs)).map V.int).all flatV = true := all_flat _
        have hj' : ((lagsL (at_ fs ps) (at_ gs qs) (ticksN fs ps gs qs)).map V.int)[j]? = some (.int m) := by rw [List.getElem?_map, hj]; rfl
        refine ⟨_, rfl, _, rfl, .inl ⟨rfl, _, SqL.of hl⟩, _, rfl, l, _, .int m, j, .int m, rfl, rfl, SqL.of hl, rfl, flat, hj', beq_self_eq_true m, fun i z hi hz => ?_, ?_⟩
        · obtain ⟨n, hn, rfl⟩ := int_at hz
          exact beq_eq_false_iff_ne.mpr fun e => first i hi (e ▸ hn)
        · refine fun x dx nx nd ne => ⟨x, dx, _, _, rfl, upd_same, fun H' o hx => ⟨rfl, ?_⟩⟩
          have ml := greatest W (Int.not_lt.mp c1) (m := m) fun y hy => all y hy
          have top := first_of (g := fun t => pre (at_ fs ps) (at_ gs qs) (t + 1)) hj first ml
          exact k2 (by omega) H' x dx m j (e1.trans (same_made nx nd o)) hx top.1 top.2
end
end KT
end
section
/-! Sums of timetables, rates. -/
namespace KT
open PySem L2
theorem cut_take {xs : List V} {k : Nat} (h : k ≤ xs.length) : cutV xs none (some (k : Int)) = xs.take k := by
  unfold cutV
  have e1 : HT.sIx xs.length 0 none = 0 := rfl
  have e2 : HT.sIx xs.length xs.length (some (k : Int)) = k := by
    unfold HT.sIx
    simp only
    split <;> omega
  rw [e1, e2, List.drop_zero, Nat.sub_zero]
theorem cut_drop {xs : List V} {k : Nat} (h : k ≤ xs.length) : cutV xs (some (k : Int)) none = xs.drop k := by
  unfold cutV
  have e1 : HT.sIx xs.length 0 (some (k : Int)) = k := by
    unfold HT.sIx
    simp only
    split <;> omega
  have e2 : HT.sIx xs.length xs.length none = xs.length := rfl
  rw [e1, e2, List.take_of_length_le (by rw [List.length_drop]; exact Nat.le_refl _)]
/-! ### two timetables added -/
def addF (fs ps gs qs : List Int) : List Int := (List.range (frontN fs gs)).map fun i => at_ fs ps i + at_ gs qs i
def addP (fs ps gs qs : List Int) : List Int := (List.range (perN ps qs)).map fun i => at_ fs ps (frontN fs gs + i) + at_ gs qs (frontN fs gs + i)
def addAll (fs ps gs qs : List Int) : List Int := (List.range (frontN fs gs + perN ps qs)).map fun i => at_ fs ps i + at_ gs qs i
theorem addAll_eq (fs ps gs qs : List Int) : addAll fs ps gs qs = addF fs ps gs qs ++ addP fs ps gs qs := by
  unfold addAll addF addP
  rw [List.range_add, List.map_append, List.map_map]; rfl
theorem addF_len (fs ps gs qs : List Int) : (addF fs ps gs qs).length = frontN fs gs := by unfold addF; simp
theorem addP_len (fs ps gs qs : List Int) : (addP fs ps gs qs).length = perN ps qs := by unfold addP; simp
theorem at_mod {F : Nat → Int} {c T : Nat} (T0 : 0 < T) (per : ∀ u, c ≤ u → F (u + T) = F u) (t : Nat) (h : c ≤ t) : F t = F (c + (t - c) % T) := by
  have e : t = (c + (t - c) % T) + T * ((t - c) / T) := by have := Nat.mod_add_div (t - c) T; omega
  have := per_mul F (c := c) (q := T) per ((t - c) / T) (c + (t - c) % T) (by omega)
  rw [← e] at this
  exact this
theorem at_add {fs ps gs qs : List Int} (g1 : Good fs ps) (g2 : Good gs qs) (t : Nat) : at_ (addF fs ps gs qs) (addP fs ps gs qs) t = at_ fs ps t + at_ gs qs t := by
  have W := two_of g1 g2
  unfold at_
  rw [addF_len, addP_len]
  split
  · rename_i h
    unfold addF
    rw [List.getD_eq_getElem?_getD, List.getElem?_map, List.getElem?_range h]
    rfl
  · rename_i h
    have lt := Nat.mod_lt (t - frontN fs gs) W.pos
    unfold addP
    rw [List.getD_eq_getElem?_getD, List.getElem?_map, List.getElem?_range lt]
    show at_ fs ps (frontN fs gs + (t - frontN fs gs) % perN ps qs) + at_ gs qs (frontN fs gs + (t - frontN fs gs) % perN ps qs) = at_ fs ps t + at_ gs qs t
    rw [← at_mod W.pos W.pF t (by omega), ← at_mod W.pos W.pR t (by omega)]
def spAdd (c : Cs) : Sp := fun vs H Q _ => ∃ (p q : Addr) (fs ps gs qs : List Int), vs = [.ref p, .ref q] ∧ Both c H p q fs ps gs qs ∧ Good (addF fs ps gs qs) (addP fs ps gs qs) ∧
  ∀ H' r, Same H H' → TimesAt c.times H' r (addF fs ps gs qs) (addP fs ps gs qs) → Q (.ref r) H'
def cap (n : Int) : Int := if (100 : Int) < n then 100 else n
theorem cap_le {n : Int} (h : n ≤ 100) : cap n = n := by unfold cap; rw [if_neg (by omega)]
theorem cap_0 {n : Int} (h : 0 ≤ n) : 0 ≤ cap n ∧ cap n ≤ 100 := by unfold cap; split <;> omega
def spSteady (c : Cs) : Sp := fun vs H Q _ => ∃ n : Int, vs = [.int n] ∧ 0 ≤ n ∧ ∀ H' r, Same H H' → TimesAt c.times H' r [] [cap n] → Q (.ref r) H'
theorem good_one {n : Int} (h0 : 0 ≤ n) (h1 : n ≤ 100) : Good [] [n] := ⟨by simp, by simp, by simp, by simpa using h0, by simpa using h1⟩
theorem at_one (n : Int) (t : Nat) : at_ [] [n] t = n := by
  unfold at_
  rw [if_neg (by simp)]
  show [n].getD ((t - 0) % 1) 0 = n
  rw [Nat.mod_one]; rfl
theorem at_one' (n : Int) : at_ [] [n] = fun _ => n := funext fun t => at_one n t
def spEnough (c : Cs) : Sp := fun vs H Q _ => ∃ (p : Addr) (fs ps : List Int) (n most : Int), vs = [.ref p, .int n, .int most] ∧ TimesAt c.times H p fs ps ∧ Good fs ps ∧ 0 ≤ n ∧
  ∀ H' b, Same H H' → (b = true → ∀ t, pre (at_ fs ps) (fun _ => cap n) (t + 1) ≤ most) → (b = false → ∃ t, most < pre (at_ fs ps) (fun _ => cap n) (t + 1)) → Q (.bl b) H'
def spAsked (c : Cs) : Sp := fun vs H Q _ => ∃ (p : Addr) (fs ps : List Int) (most : Int), vs = [.ref p, .int most] ∧ TimesAt c.times H p fs ps ∧ 0 ≤ most ∧ most ≤ 1000 ∧ Q .non H
def spBeyond (c : Cs) : Sp := fun vs H Q _ => ∃ (p : Addr) (fs ps : List Int) (n most : Int), vs = [.ref p, .int n, .int most] ∧ TimesAt c.times H p fs ps ∧ Good fs ps ∧ 0 ≤ most ∧ (∃ t, most < pre (at_ fs ps) (fun _ => n) (t + 1)) ∧
  ∀ (k : Nat) H', Same H H' → Beyond (at_ fs ps) n most k → Q (.int k) H'
/-- the least number of a rate, and its tick -/
def RateIs (F : Nat → Int) (most n : Int) (v : V) : Prop := IsRate F most n ∧ n ≤ 100 ∧ (n = 0 → v = .non) ∧ (0 < n → ∃ t : Nat, v = .int t ∧ Beyond F (n - 1) most t)
def spRate (c : Cs) : Sp := fun vs H Q _ => ∃ (p : Addr) (fs ps : List Int) (most : Int), vs = [.ref p, .int most] ∧ TimesAt c.times H p fs ps ∧ Good fs ps ∧ 0 ≤ most ∧ most ≤ 1000 ∧
  ∀ H' r dx n v, Same H H' → H' r = some (.ins c.rate dx (rF "number" "tick" (.int n) v)) → RateIs (at_ fs ps) most n v → Q (.ref r) H'
section
variable {P : Program} {w : World} {K : PySem.W.Frag} {mg : Str → Option Value} {base : Heap} {c : Cs}
/-- a timetable made of two lists at hand -/
theorem make_times {c : Cs} {x dx a b : Addr} {H : Hp} {fs ps : List Int} {R : VK} {E : XK} (nx : H x = none) (nd : H dx = none) (ha : H a = some (.lst (fs.map V.int))) (hb : H b = some (.lst (ps.map V.int))) (good : Good fs ps)
    (k : ∀ H', Same H H' → TimesAt c.times H' x fs ps → R (.ref x) H') : spTInit c [.ref x, .ref a, .ref b] (upd (upd H dx (.own x)) x (.ins c.times dx [])) (fun v H2 => v = .non ∧ R (.ref x) H2) E := by
  have e : Same H (upd (upd H dx (.own x)) x (.ins c.times dx [])) := fun b o z => by rw [upd_ne (ne_of_none z nx), upd_ne (ne_of_none z nd)]; exact z
  exact ⟨x, dx, a, b, fs, ps, rfl, upd_same, e _ _ ha, e _ _ hb, good, fun H' dx' a' b' o hx h1 h2 _ _ => ⟨rfl, k H' (same_made nx nd o) ⟨dx', a', b', hx, h1, h2⟩⟩⟩
theorem make_timesH {c : Cs} {x dx a b : Addr} {H : Hp} {fs ps : List Int} {R : Hp → Prop} {E : XK} (nx : H x = none) (nd : H dx = none) (ha : H a = some (.lst (fs.map V.int))) (hb : H b = some (.lst (ps.map V.int))) (good : Good fs ps)
    (k : ∀ H', Same H H' → TimesAt c.times H' x fs ps → R H') : spTInit c [.ref x, .ref a, .ref b] (upd (upd H dx (.own x)) x (.ins c.times dx [])) (fun v H2 => v = .non ∧ R H2) E := make_times (R := fun _ H' => R H') nx nd ha hb good k
/-- .., with what is new -/
theorem make_timesX {c : Cs} {x dx a b : Addr} {H : Hp} {fs ps : List Int} {R : Hp → Prop} {E : XK} (nx : H x = none) (nd : H dx = none) (ha : H a = some (.lst (fs.map V.int))) (hb : H b = some (.lst (ps.map V.int))) (good : Good fs ps)
    (k : ∀ H' dx' a' b', Same H H' → H' x = some (.ins c.times dx' (tF a' b')) → H' a' = some (.lst (fs.map V.int)) → H' b' = some (.lst (ps.map V.int)) → H a' = none → H b' = none → R H') : spTInit c [.ref x, .ref a, .ref b] (upd (upd H dx (.own x)) x (.ins c.times dx [])) (fun v H2 => v = .non ∧ R H2) E := by
  have e : Same H (upd (upd H dx (.own x)) x (.ins c.times dx [])) := fun b o z => by rw [upd_ne (ne_of_none z nx), upd_ne (ne_of_none z nd)]; exact z
  exact ⟨x, dx, a, b, fs, ps, rfl, upd_same, e _ _ ha, e _ _ hb, good, fun H' dx' a' b' o hx h1 h2 n1 n2 => ⟨rfl, k H' dx' a' b' (same_made nx nd o) hx h1 h2 (e.free n1) (e.free n2)⟩⟩
abbrev sAdd : Stmt := inClass (top 10) 4
abbrev nAdd : List Str := ["self", "other", "ahead", "length", "sums", "tick"]
theorem scAdd : FnScope nAdd ["self", "other"] (defScope sAdd) := ⟨rfl, rfl, rfl, by decide +kernel, rfl, by decide +kernel, by decide +kernel⟩
theorem ok_add {f fF fP fA fI : Addr} {fd fdF fdP fdA fdI : FuncData} (F : Fun K "__add__" "Times.__add__" sAdd f fd) (T : Txt P w K mg base c)
    (A_common_front : At K mg "common_front" fF) (G_common_front : FnOk P w K mg base CX0 1 fF fdF ["one", "other"] (spFront c)) (b_common_front : Binds K fdF ["one", "other"] [])
    (A_common_period : At K mg "common_period" fP) (G_common_period : FnOk P w K mg base CX0 1 fP fdP ["one", "other"] (spPer c)) (b_common_period : Binds K fdP ["one", "other"] [])
    (A_number_at : At K mg "number_at" fA) (G_number_at : FnOk P w K mg base CX0 1 fA fdA ["times", "tick"] (spAt c)) (b_number_at : Binds K fdA ["times", "tick"] [])
    (M_Times : Mk K c.times fI) (G_Times : FnOk P w K mg base CX0 3 fI fdI ["self", "front", "period"] (spTInit c)) (b_Times : Binds K fdI ["self", "front", "period"] []) :
    FnOk P w K mg base CX0 5 f fd ["self", "other"] (spAdd c) := by
  refine F.ok scAdd (fun vs H Q E h => ?_) (fun cdv A outer s H vs Q E hr h => ?_)
  · obtain ⟨p, q, fs, ps, gs, qs, rfl, _⟩ := h
    rfl
  · obtain ⟨p, q, fs, ps, gs, qs, rfl, B, good, k⟩ := h
    have nd := scAdd.nd
    have hr_common_front : Room 1 _ := hr.mono (by decide)
    have hr_common_period : Room 1 _ := hr.mono (by decide)
    have hr_number_at : Room 1 _ := hr.mono (by decide)
    have hr_Times : Room 4 _ := hr
    obtain ⟨dy, a', b', hq, ha', hb'⟩ := id B.two
    refine ⟨_, (pss_cons (ps_if (pt_not (pt_val (pe_callB call_isi (by rfl) T.isinstance (by decide +kernel) (pa_cons (pv 1) (pa_cons (pe_glob (v := .ref c.times) (by rfl) T.Times.g rfl) pa_nil)))))
        (pss_one (ps_never))
        pss_nil)
      (pss_cons (ps_par (i := 2) (j := 3) (by rfl) nd rfl rfl (by decide) rfl rfl (pa_cons (pe_call G_common_front hr_common_front (by rfl) A_common_front.g A_common_front.k b_common_front .nil pass0 (pa_cons (pv 0) (pa_cons (pv 1) pa_nil))) (pa_cons (pe_call G_common_period hr_common_period (by rfl) A_common_period.g A_common_period.k b_common_period .nil pass0 (pa_cons (pv 0) (pa_cons (pv 1) pa_nil))) pa_nil)) (by rfl))
      (pss_cons (ps_setLc (i := 4) (own := [("tick", 5)]) (by rfl) nd rfl rfl (sw_true rfl rfl rfl (by decide +kernel)) (pi_range1 (by rfl) T.range (pa_cons (pe_op op_add (pv 2) (pv 3)) pa_nil)) (blkOk_by (N := nAdd) (sc := defScope sAdd) (by decide +kernel)) (fun _ _ _ _ _ => (pg_name (i := 5) nd rfl (Or.inl rfl))) (fun _ _ _ _ _ => pts_nil) (fun _ _ _ _ _ => (pe_op op_add (pe_call G_number_at hr_number_at (by rfl) A_number_at.g A_number_at.k b_number_at .nil pass0 (pa_cons (pv 0) (pa_cons (pv 5) pa_nil))) (pe_call G_number_at hr_number_at (by rfl) A_number_at.g A_number_at.k b_number_at .nil pass0 (pa_cons (pv 1) (pa_cons (pv 5) pa_nil))))))
      (pss_one (ps_ret (pe_make M_Times G_Times hr_Times (by rfl) T.Times.g b_Times .nil pass0 (pa_cons (pe_slice sl_list (pv 4) po_none (po_some (pv 2))) (pa_cons (pe_slice sl_list (pv 4) (po_some (pv 2)) po_none) pa_nil)))))))), ?_⟩
    refine into ⟨_, rfl, .ref q, .ref c.times, _, _, true, rfl, .own _, .base (.ins hq T.Times.cl T.Times.own.ha T.Times.own.hn T.Times.own.htk T.Times.own.hm), T.Times.ki, _, rfl, iteF ?_⟩
    unfold tNext
    dsimp only
    refine into ⟨_, rfl, _, rfl, p, q, fs, ps, gs, qs, rfl, B.one, B.two, _, rfl, _, rfl, p, q, fs, ps, gs, qs, rfl, B.one, B.two, B.g1, B.g2, ?_⟩
    rw [show Nat.lcm ps.length qs.length = perN ps qs from rfl, show max fs.length gs.length = frontN fs gs from rfl]
    have P1 := perN_le B.g1 B.g2
    have F1 : frontN fs gs ≤ 24 := by have := B.g1.few; have := B.g2.few; unfold frontN; omega
    refine ⟨_, _, rfl, ?_⟩
    refine into ⟨_, rfl, _, rfl, _, _, rfl, rfl, _, rfl, by omega, by omega, fun D hD => ?_⟩
    rw [show ((frontN fs gs : Int) + (perN ps qs : Int)).toNat = frontN fs gs + perN ps qs by omega]
    refine lc_range (lo := 0) (n := frontN fs gs + perN ps qs) (fun j H' => H' D = some (.lst (((List.range j).map fun i => at_ fs ps i + at_ gs qs i).map V.int)) ∧ Same H H') ⟨upd_same, made hD⟩ ?_ ?_
    · rintro j H' hj ⟨hl, e⟩
      have B' := B.same e
      refine ⟨rfl, _, rfl, _, rfl, p, fs, ps, j, by rw [Int.zero_add]; rfl, B'.one, B'.g1, _, rfl, _, rfl, q, gs, qs, j, by rw [Int.zero_add]; rfl, B'.two, B'.g2, _, _, rfl, rfl, _, hl, by rw [List.length_map, List.length_map, List.length_range, sizeLine_eq]; omega, ?_, put_in e hD⟩
      rw [upd_same, List.range_succ, List.map_append, List.map_append]; rfl
    · rintro H' ⟨hl, e⟩
      have hl : H' D = some (.lst ((addF fs ps gs qs ++ addP fs ps gs qs).map V.int)) := by rw [hl, ← addAll_eq]; rfl
      have len : ((addF fs ps gs qs ++ addP fs ps gs qs).map V.int).length = frontN fs gs + perN ps qs := by rw [List.length_map, List.length_append, addF_len, addP_len]
      refine ⟨_, rfl, _, rfl, _, rfl, D, _, rfl, SqL.of hl, fun a na => ?_⟩
      have hl1 := made (o := .lst (cutV ((addF fs ps gs qs ++ addP fs ps gs qs).map V.int) none (some (frontN fs gs : Int)))) na _ _ hl
      refine ⟨_, rfl, _, rfl, _, rfl, D, _, rfl, SqL.of hl1, fun b nb => ?_⟩
      rw [cut_take (by omega)] at nb ⊢
      rw [cut_drop (by omega)]
      have e2 : (((addF fs ps gs qs ++ addP fs ps gs qs).map V.int).take (frontN fs gs)) = (addF fs ps gs qs).map V.int := by rw [← List.map_take, List.take_left' (addF_len fs ps gs qs)]
      have e3 : (((addF fs ps gs qs ++ addP fs ps gs qs).map V.int).drop (frontN fs gs)) = (addP fs ps gs qs).map V.int := by rw [← List.map_drop, List.drop_left' (addF_len fs ps gs qs)]
      rw [e2] at nb ⊢
      rw [e3]
      have s1 : Same H' (upd H' a (.lst ((addF fs ps gs qs).map V.int))) := made na
      refine fun x dx nx ndx ne => make_times nx ndx (made nb _ _ upd_same) upd_same good fun H2 e4 t => k H2 x ((e.trans (s1.trans (made nb))).trans e4) t
abbrev sSteady : Stmt := top 32
theorem scSteady : FnScope ["number"] ["number"] (defScope sSteady) := ⟨rfl, rfl, rfl, by decide +kernel, rfl, by decide +kernel, by decide +kernel⟩
theorem ok_steady {f fI : Addr} {fd fdI : FuncData} (F : Fun K "steady" "steady" sSteady f fd) (T : Txt P w K mg base c)
    (M_Times : Mk K c.times fI) (G_Times : FnOk P w K mg base CX0 3 fI fdI ["self", "front", "period"] (spTInit c)) (b_Times : Binds K fdI ["self", "front", "period"] []) :
    FnOk P w K mg base CX0 5 f fd ["number"] (spSteady c) := by
  refine F.ok scSteady (fun vs H Q E h => ?_) (fun cdv A outer s H vs Q E hr h => ?_)
  · obtain ⟨n, rfl, _⟩ := h
    rfl
  · obtain ⟨n, rfl, h0, k⟩ := h
    have hr_Times : Room 4 _ := hr
    obtain ⟨t100, g100⟩ := T.g_MOST_ROWS
    refine ⟨_, (pss_one (ps_ret (pe_make M_Times G_Times hr_Times (by rfl) T.Times.g b_Times .nil pass0 (pa_cons (pe_lst pa_nil) (pa_cons (pe_lst (pa_cons (pe_callB (call_min2 rfl) (by rfl) T.min (by decide +kernel) (pa_cons (pv 0) (pa_cons (pe_glob (v := .int 100) (by rfl) g100 ⟨_, rfl⟩) pa_nil))) pa_nil)) pa_nil))))), ?_⟩
    refine ⟨by simp, fun a na => ⟨_, rfl, _, _, rfl, by simp [sizeLine_eq], fun b nb => ?_⟩⟩
    rw [show (if (100 : Int) < n then (100 : Int) else n) = cap n from rfl]
    exact fun x dx nx ndx ne => make_times (fs := []) (ps := [cap n]) nx ndx (made nb _ _ upd_same) upd_same (good_one (cap_0 h0).1 (cap_0 h0).2) fun H2 e4 t => k H2 x (((made na).trans (made nb)).trans e4) t
abbrev sAsked : Stmt := top 31
theorem scAsked : FnScope ["fed", "most"] ["fed", "most"] (defScope sAsked) := ⟨rfl, rfl, rfl, by decide +kernel, rfl, by decide +kernel, by decide +kernel⟩
theorem ok_asked {f fC fN : Addr} {fd fdC fdN : FuncData} (F : Fun K "check_asked" "check_asked" sAsked f fd) (T : Txt P w K mg base c) (A_check_times : At K mg "check_times" fC) (G_check_times : FnOk P w K mg base CX0 1 fC fdC ["times"] (spCheck c)) (b_check_times : Binds K fdC ["times"] [])
    (A_is_number : At K mg "is_number" fN) (G_is_number : FnOk P w K mg base CX0 1 fN fdN ["value"] spNum) (b_is_number : Binds K fdN ["value"] []) :
    FnOk P w K mg base CX0 2 f fd ["fed", "most"] (spAsked c) := by
  refine F.ok scAsked (fun vs H Q E h => ?_) (fun cdv A outer s H vs Q E hr h => ?_)
  · obtain ⟨p, fs, ps, most, rfl, _⟩ := h
    rfl
  · obtain ⟨p, fs, ps, most, rfl, t, m0, m1, k⟩ := h
    have hr_check_times : Room 1 _ := hr
    have hr_is_number : Room 1 _ := hr
    obtain ⟨tB, gB⟩ := T.g_MOST_BOUND
    refine ⟨_, (pss_cons (ps_expr (pe_call G_check_times hr_check_times (by rfl) A_check_times.g A_check_times.k b_check_times .nil pass0 (pa_cons (pv 0) pa_nil)))
      (pss_one (ps_if (PW.pt (pw_or (pt_not (pt_val (pe_call G_is_number hr_is_number (by rfl) A_is_number.g A_is_number.k b_is_number .nil pass0 (pa_cons (pv 1) pa_nil)))) (pw_or1 (pt_cmpR op_gt (pv 1) (pe_glob (v := .int 1000) (by rfl) gB ⟨_, rfl⟩) (nomark _)))))
        (pss_one (ps_never))
        pss_nil))), ?_⟩
    refine into ⟨_, rfl, p, fs, ps, rfl, t, ⟨_, rfl, most, rfl, _, rfl, ?_⟩⟩
    rw [decide_eq_true m0]
    refine iteF ⟨_, rfl, _, _, rfl, rfl, _, rfl, ?_⟩
    rw [decide_eq_false (show ¬ most > 1000 by omega)]
    exact iteF k
abbrev sEnough : Stmt := top 33
theorem scEnough : FnScope ["fed", "number", "most", "found"] ["fed", "number", "most"] (defScope sEnough) := ⟨rfl, rfl, rfl, by decide +kernel, rfl, by decide +kernel, by decide +kernel⟩
theorem ok_enough {f fG fS : Addr} {fd fdG fdS : FuncData} (F : Fun K "is_enough" "is_enough" sEnough f fd) (T : Txt P w K mg base c) (A_greatest_lag : At K mg "greatest_lag" fG) (G_greatest_lag : FnOk P w K mg base CX0 4 fG fdG ["fed", "read"] (spGL c)) (b_greatest_lag : Binds K fdG ["fed", "read"] [])
    (A_steady : At K mg "steady" fS) (G_steady : FnOk P w K mg base CX0 5 fS fdS ["number"] (spSteady c)) (b_steady : Binds K fdS ["number"] []) :
    FnOk P w K mg base CX0 6 f fd ["fed", "number", "most"] (spEnough c) := by
  refine F.ok scEnough (fun vs H Q E h => ?_) (fun cdv A outer s H vs Q E hr h => ?_)
  · obtain ⟨p, fs, ps, n, most, rfl, _⟩ := h
    rfl
  · obtain ⟨p, fs, ps, n, most, rfl, t, good, n0, k⟩ := h
    have nd := scEnough.nd
    have hr_greatest_lag : Room 4 _ := hr.mono (by decide)
    have hr_steady : Room 5 _ := hr
    have hr_bool : Room 3 _ := hr.mono (by decide)
    refine ⟨_, (pss_cons (ps_set (i := 3) nd rfl (Or.inl rfl) (pe_call G_greatest_lag hr_greatest_lag (by rfl) A_greatest_lag.g A_greatest_lag.k b_greatest_lag .nil pass0 (pa_cons (pv 0) (pa_cons (pe_call G_steady hr_steady (by rfl) A_steady.g A_steady.k b_steady .nil pass0 (pa_cons (pv 1) pa_nil)) pa_nil))))
      (pss_one (ps_ret (pe_and (pe_callTy (call_boolOwn T.says hr_bool pass0) (by rfl) T.bool (by decide +kernel) (pa_cons (pv 3) pa_nil)) (pe_one (pe_cmpR op_le (pe_fld (pv 3) rfl) (pv 2) (nomark _))))))), ?_⟩
    refine into ⟨_, rfl, _, rfl, n, rfl, n0, fun H1 r e1 tr => ?_⟩
    have g2 := good_one (cap_0 n0).1 (cap_0 n0).2
    have W := two_of good g2
    have e0 : at_ [] [cap n] = fun _ => cap n := at_one' (cap n)
    refine ⟨p, r, fs, ps, [], [cap n], rfl, ⟨t.same e1, tr, good, g2⟩, fun gr H2 q dx e2 hq => ?_, fun gr H2 q dx m j e2 hq top lt => ?_⟩
    · have big := grows W.pF W.pR gr most
      rw [e0] at big
      exact ⟨_, rfl, _, rfl, ⟨q, _, dx, _, false, rfl, hq, .inr (.inl ⟨rfl, rfl⟩), _, rfl, iteF (k H2 false (e1.trans e2) (fun z => nomatch z) fun _ => big)⟩⟩
    · have top : First (fun t => pre (at_ fs ps) (at_ [] [cap n]) (t + 1)) m j := top
      rw [e0] at top
      refine ⟨_, rfl, _, rfl, ⟨q, _, dx, _, true, rfl, hq, .inl ⟨rfl, rfl⟩, _, rfl, iteT ⟨_, rfl, q, _, dx, _, .int m, rfl, hq, T.Lag.cl, T.n_lnumber, rF_fst (by decide +kernel), _, rfl, _, _, rfl, rfl, ?_⟩⟩⟩
      refine k H2 _ (e1.trans e2) (fun z t => ?_) fun z => ?_
      · have := of_decide_eq_true z; have a := top.le t; have a : pre (at_ fs ps) (fun _ => cap n) (t + 1) ≤ m := a; omega
      · have := of_decide_eq_false z
        have a : pre (at_ fs ps) (fun _ => cap n) (j + 1) = m := top.is
        exact ⟨j, by omega⟩
end
end KT
end
section
/-! The least rate; kept rows. -/
namespace KT
open PySem L2
section
variable {P : Program} {w : World} {K : PySem.W.Frag} {mg : Str → Option Value} {base : Heap} {c : Cs}
abbrev sBeyond : Stmt := top 35
abbrev nBeyond : List Str := ["fed", "number", "most", "lag", "tick"]
theorem scBeyond : FnScope nBeyond ["fed", "number", "most"] (defScope sBeyond) := ⟨rfl, rfl, rfl, by decide +kernel, rfl, by decide +kernel, by decide +kernel⟩
theorem ok_beyond {f fA : Addr} {fd fdA : FuncData} (F : Fun K "first_beyond" "first_beyond" sBeyond f fd) (T : Txt P w K mg base c) (A_number_at : At K mg "number_at" fA) (G_number_at : FnOk P w K mg base CX0 1 fA fdA ["times", "tick"] (spAt c)) (b_number_at : Binds K fdA ["times", "tick"] []) :
    FnOk P w K mg base CX0 2 f fd ["fed", "number", "most"] (spBeyond c) := by
  refine F.ok scBeyond (fun vs H Q E h => ?_) (fun cdv A outer s H vs Q E hr h => ?_)
  · obtain ⟨p, fs, ps, n, most, rfl, _⟩ := h
    rfl
  · obtain ⟨p, fs, ps, n, most, rfl, t, good, m0, ⟨t0, ht⟩, k⟩ := h
    have nd := scBeyond.nd
    have hr_number_at : Room 1 _ := hr
    refine ⟨_, (pss_cons (ps_asg (pe_tup (pa_cons pe_int (pa_cons pe_int pa_nil))) (pg_tup rfl (pgs_cons (pg_name (i := 3) nd rfl (Or.inl rfl)) (pgs_cons (pg_name (i := 4) nd rfl (Or.inl rfl)) pgs_nil))))
      (pss_cons (ps_while PassesOwn.never (pt_cmpR op_le (pv 3) (pv 2) (nomark _))
        (pss_cons (ps_set (i := 3) nd rfl (Or.inl rfl) (pe_callB (call_max2 rfl) (by rfl) T.max (by decide +kernel) (pa_cons pe_int (pa_cons (pe_op op_sub (pe_op op_add (pv 3) (pe_call G_number_at hr_number_at (by rfl) A_number_at.g A_number_at.k b_number_at .nil pass0 (pa_cons (pv 0) (pa_cons (pv 4) pa_nil)))) (pv 1)) pa_nil))))
        (pss_one (ps_aug (i := 4) nd rfl (Or.inl rfl) pe_int ip_add))))
      (pss_one (ps_ret (pe_op op_sub (pv 4) pe_int))))), ?_⟩
    refine into ⟨by show 2 ≤ sizeLine; decide, fun tp nt => ⟨tp, _, rfl, SqT.of upd_same, rfl, _, _, rfl, _, _, rfl, rfl, ?_⟩⟩
    refine into (while_by (fun σ H' => Same H H' ∧ ∃ j : Nat, j ≤ t0 + 1 ∧ (∀ i, i < j → pre (at_ fs ps) (fun _ => n) i ≤ most) ∧ σ = [some (.ref p), some (.int n), some (.int most), some (.int (pre (at_ fs ps) (fun _ => n) j)), some (.int j)])
      (fun σ _ => match σ with | [_, _, _, _, some (.int j)] => t0 + 1 - j.toNat | _ => 0) ⟨made nt, 0, by omega, fun i h => absurd h (Nat.not_lt_zero i), rfl⟩ ?_ ?_)
    · rintro σ H' ⟨e, j, hj, few, rfl⟩
      refine ⟨_, rfl, _, rfl, _, _, rfl, rfl, _, rfl, ?_⟩
      rcases Decidable.em (pre (at_ fs ps) (fun _ => n) j ≤ most) with c1 | c1
      · rw [decide_eq_true c1]
        have lt : j < t0 + 1 := by
          rcases Nat.lt_or_eq_of_le hj with h | h
          · exact h
          · rw [h] at c1; omega
        refine iteT ?_
        refine into ⟨_, rfl, _, rfl, _, rfl, p, fs, ps, j, rfl, t.same e, good, _, _, rfl, rfl, _, rfl, _, _, rfl, rfl, _, _, rfl, ?_⟩
        have step : (if pre (at_ fs ps) (fun _ => n) j + at_ fs ps j - n > 0 then pre (at_ fs ps) (fun _ => n) j + at_ fs ps j - n else 0) = pre (at_ fs ps) (fun _ => n) (j + 1) := by
          show _ = max 0 (pre (at_ fs ps) (fun _ => n) j + at_ fs ps j - n)
          split <;> omega
        refine ⟨_, rfl, _, _, rfl, rfl, ⟨e, j + 1, lt, fun i hi => ?_, ?_⟩, ?_⟩
        · rcases Nat.lt_or_eq_of_le (Nat.le_of_lt_succ hi) with h | h
          · exact few i h
          · rw [h]; exact c1
        · rw [step]; rfl
        · show t0 + 1 - ((j : Int) + 1).toNat < t0 + 1 - (j : Int).toNat
          omega
      · rw [decide_eq_false c1]
        have j0 : 0 < j := by
          cases j with
          | zero => exact absurd (show (0 : Int) ≤ most from m0) c1
          | succ j => omega
        have bey : Beyond (at_ fs ps) n most (j - 1) := ⟨by rw [show j - 1 + 1 = j by omega]; omega, fun u hu => few (u + 1) (by omega)⟩
        have q := k (j - 1) H' e bey
        rw [show ((j - 1 : Nat) : Int) = (j : Int) - 1 by omega] at q
        exact iteF ⟨_, rfl, _, _, rfl, rfl, q⟩
    · rintro σ H' Q Q' hq ⟨x, hx, y, hy, i, j, ei, ej, b, eb, q⟩
      exact ⟨x, hx, y, hy, i, j, ei, ej, b, eb, hq _ _ q⟩
abbrev sRate : Stmt := top 34
theorem scRate : FnScope ["fed", "most", "number"] ["fed", "most"] (defScope sRate) := ⟨rfl, rfl, rfl, by decide +kernel, rfl, by decide +kernel, by decide +kernel⟩
theorem rate_stop {fs ps : List Int} (g : Good fs ps) {most : Int} (m0 : 0 ≤ most) (t : Nat) : pre (at_ fs ps) (fun _ => (100 : Int)) (t + 1) ≤ most := by
  rw [pre_zero (R := fun _ => (100 : Int)) (fun t => g.high _ (at_mem g.ne t)) (t + 1)]; exact m0
theorem ok_rate {f fC fE fB fI : Addr} {fd fdC fdE fdB fdI : FuncData} (F : Fun K "least_rate" "least_rate" sRate f fd) (T : Txt P w K mg base c) (A_check_asked : At K mg "check_asked" fC) (G_check_asked : FnOk P w K mg base CX0 2 fC fdC ["fed", "most"] (spAsked c)) (b_check_asked : Binds K fdC ["fed", "most"] [])
    (A_is_enough : At K mg "is_enough" fE) (G_is_enough : FnOk P w K mg base CX0 6 fE fdE ["fed", "number", "most"] (spEnough c)) (b_is_enough : Binds K fdE ["fed", "number", "most"] [])
    (A_first_beyond : At K mg "first_beyond" fB) (G_first_beyond : FnOk P w K mg base CX0 2 fB fdB ["fed", "number", "most"] (spBeyond c)) (b_first_beyond : Binds K fdB ["fed", "number", "most"] [])
    (M_Rate : Mk K c.rate fI) (G_Rate : FnOk P w K mg base CX0 1 fI fdI ["self", "number", "tick"] (spR2 c.rate "number" "tick")) (b_Rate : Binds K fdI ["self", "number", "tick"] []) :
    FnOk P w K mg base CX0 7 f fd ["fed", "most"] (spRate c) := by
  refine F.ok scRate (fun vs H Q E h => ?_) (fun cdv A outer s H vs Q E hr h => ?_)
  · obtain ⟨p, fs, ps, most, rfl, _⟩ := h
    rfl
  · obtain ⟨p, fs, ps, most, rfl, t, good, m0, m1, k⟩ := h
    have nd := scRate.nd
    have hr_check_asked : Room 2 _ := hr.mono (by decide)
    have hr_is_enough : Room 6 _ := hr
    have hr_first_beyond : Room 2 _ := hr.mono (by decide)
    have hr_Rate : Room 2 _ := hr.mono (by decide)
    refine ⟨_, (pss_cons (ps_expr (pe_call G_check_asked hr_check_asked (by rfl) A_check_asked.g A_check_asked.k b_check_asked .nil pass0 (pa_cons (pv 0) (pa_cons (pv 1) pa_nil))))
      (pss_cons (ps_set (i := 2) nd rfl (Or.inl rfl) (pe_int))
      (pss_cons (ps_while PassesOwn.never (pt_not (pt_val (pe_call G_is_enough hr_is_enough (by rfl) A_is_enough.g A_is_enough.k b_is_enough .nil pass0 (pa_cons (pv 0) (pa_cons (pv 2) (pa_cons (pv 1) pa_nil))))))
        (pss_one (ps_aug (i := 2) nd rfl (Or.inl rfl) pe_int ip_add)))
      (pss_one (ps_ret (pe_make M_Rate G_Rate hr_Rate (by rfl) T.Rate.g b_Rate .nil pass0 (pa_cons (pv 2) (pa_cons (pe_ifExp (pt_cmpR op_gt (pv 2) pe_int (nomark _)) (pe_call G_first_beyond hr_first_beyond (by rfl) A_first_beyond.g A_first_beyond.k b_first_beyond .nil pass0 (pa_cons (pv 0) (pa_cons (pe_op op_sub (pv 2) pe_int) (pa_cons (pv 1) pa_nil)))) pe_non) pa_nil)))))))), ?_⟩
    refine into ⟨_, rfl, _, rfl, p, fs, ps, most, rfl, t, m0, m1, ?_⟩
    refine into ?_
    refine into (while_by (fun σ H' => Same H H' ∧ ∃ j : Nat, j ≤ 100 ∧ σ = [some (.ref p), some (.int most), some (.int j)] ∧ ∀ i : Nat, i < j → ∃ t, most < pre (at_ fs ps) (fun _ => (i : Int)) (t + 1))
      (fun σ _ => match σ with | [_, _, some (.int j)] => 101 - j.toNat | _ => 0) ⟨Same.refl H, 0, by omega, rfl, fun i h => absurd h (Nat.not_lt_zero i)⟩ ?_ ?_)
    · rintro σ H' ⟨e, j, hj, rfl, few⟩
      refine ⟨_, rfl, _, rfl, _, rfl, p, fs, ps, j, most, rfl, t.same e, good, by omega, fun H2 b e2 yes no => ⟨_, rfl, ?_⟩⟩
      rw [cap_le (show (j : Int) ≤ 100 by omega)] at yes no
      cases b with
      | false =>
        refine iteT ⟨_, rfl, _, _, rfl, rfl, ⟨e.trans e2, j + 1, ?_, rfl, fun i hi => ?_⟩, ?_⟩
        · rcases Nat.lt_or_eq_of_le hj with h | h
          · exact h
          · obtain ⟨u, hu⟩ := no rfl
            subst h
            have := rate_stop good m0 u
            have hu' : most < pre (at_ fs ps) (fun _ => (100 : Int)) (u + 1) := hu
            omega
        · rcases Nat.lt_or_eq_of_le (Nat.le_of_lt_succ hi) with h | h
          · exact few i h
          · subst h; exact no rfl
        · show 101 - ((j : Int) + 1).toNat < 101 - (j : Int).toNat
          omega
      | true =>
        have e12 := e.trans e2
        have isr : IsRate (at_ fs ps) most j := ⟨by omega, yes rfl, fun i i0 i1 => by
          have := few i.toNat (by omega)
          rwa [show ((i.toNat : Nat) : Int) = i by omega] at this⟩
        refine iteF ⟨_, rfl, _, rfl, _, _, rfl, rfl, _, rfl, ?_⟩
        have last3 : ∀ H3, Same H2 H3 → ∀ (u : V) (x dx : Addr), RateIs (at_ fs ps) most j u → H3 x = none → H3 dx = none → dx ≠ x → spR2 c.rate "number" "tick" [.ref x, .int j, u] (upd (upd H3 dx (.own x)) x (.ins c.rate dx [])) (fun v H4 => v = .non ∧ Q (.ref x) H4) E0 := fun H3 e3 u x dx is nx nd ne =>
          ⟨x, dx, _, _, rfl, upd_same, fun H' o hx => ⟨rfl, k H' x dx j u ((e12.trans e3).trans (same_made nx nd o)) hx is⟩⟩
        rcases Decidable.em ((j : Int) > 0) with c1 | c1
        · rw [decide_eq_true c1]
          have fw := few (j - 1) (by omega)
          rw [show ((j - 1 : Nat) : Int) = (j : Int) - 1 by omega] at fw
          exact iteT ⟨_, rfl, _, rfl, _, _, rfl, rfl, _, rfl, p, fs, ps, _, most, rfl, t.same e12, good, m0, fw, fun u H3 e3 bey => fun x dx nx nd ne => last3 H3 e3 _ x dx ⟨isr, by omega, fun z => absurd z (by omega), fun _ => ⟨u, rfl, bey⟩⟩ nx nd ne⟩
        · rw [decide_eq_false c1]
          exact iteF fun x dx nx nd ne => last3 H2 (Same.refl _) _ x dx ⟨isr, by omega, fun _ => rfl, fun z => absurd z c1⟩ nx nd ne
    · rintro σ H' Q Q' hq ⟨x, hx, y, hy, z, hz, q, fs', ps', n', most', ea, ht, hg, h0, r⟩
      exact ⟨x, hx, y, hy, z, hz, q, fs', ps', n', most', ea, ht, hg, h0, fun H2 b e2 yes no => let ⟨b', eb, r'⟩ := r H2 b e2 yes no; ⟨b', eb, hq _ _ r'⟩⟩
end
end KT
end
section
/-! Kept rows. -/
namespace KT
open PySem L2
theorem waitL_len (F R : Nat → Int) (n : Nat) : (waitL F R n).length = n := by
  unfold waitL
  rw [List.length_map, List.length_range]
theorem ahead_at (F R : Nat → Int) {n t : Nat} (h : t ≤ n) : (([0] : List Int) ++ lagsL F R n)[t]? = some (pre F R t) := by
  cases t with
  | zero => rfl
  | succ t =>
    show (lagsL F R n)[t]? = _
    unfold lagsL
    rw [List.getElem?_map, List.getElem?_range (by omega)]; rfl
def spWait (c : Cs) : Sp := fun vs H Q _ => ∃ (p q : Addr) (fs ps gs qs : List Int) (n : Nat), vs = [.ref p, .ref q, .int n] ∧ Both c H p q fs ps gs qs ∧ n ≤ 2000 ∧
  ∀ H' l, Same H H' → H' l = some (.lst ((waitL (at_ fs ps) (at_ gs qs) n).map V.int)) → Q (.ref l) H'
/-- groups of readers, by their timetables -/
abbrev Gs := List (List Int × List Int)
def Gs.fn (gs : Gs) : List (Nat → Int) := gs.map fun g => at_ g.1 g.2
structure GroupsAt (c : Cs) (H : Hp) (as : List Addr) (gs : Gs) : Prop where
  len : as.length = gs.length
  at_ : ∀ (i : Nat) (a : Addr) (g : List Int × List Int), as[i]? = some a → gs[i]? = some g → TimesAt c.times H a g.1 g.2 ∧ Good g.1 g.2
theorem GroupsAt.same {c : Cs} {H H' : Hp} {as : List Addr} {gs : Gs} (h : GroupsAt c H as gs) (e : Same H H') : GroupsAt c H' as gs := ⟨h.len, fun i a g x y => ⟨(h.at_ i a g x y).1.same e, (h.at_ i a g x y).2⟩⟩
def spKeep (c : Cs) : Sp := fun vs H Q _ => ∃ (p l : Addr) (fs ps : List Int) (as : List Addr) (gs : Gs), vs = [.ref p, .ref l] ∧ TimesAt c.times H p fs ps ∧ Good fs ps ∧ H l = some (.lst (as.map V.ref)) ∧ GroupsAt c H as gs ∧ 0 < gs.length ∧ gs.length ≤ 100 ∧
  (∀ (i : Nat) (g : List Int × List Int), gs[i]? = some g → 0 < growth fs ps g.1 g.2 → (∀ (j : Nat) (g' : List Int × List Int), j < i → gs[j]? = some g' → growth fs ps g'.1 g'.2 ≤ 0) → ∀ H' r dx, Same H H' → H' r = some (.ins c.grow dx (rF "period" "growth" (.int (perN ps g.2)) (.int (growth fs ps g.1 g.2)))) → Q (.ref r) H') ∧
  ((∀ (j : Nat) (g : List Int × List Int), gs[j]? = some g → growth fs ps g.1 g.2 ≤ 0) → ∀ H' r dx rows (tk i : Nat), Same H H' → H' r = some (.ins c.keep dx (kF (.int rows) (.int tk) (.int i))) → KeepTop (at_ fs ps) gs.fn rows tk i → (∃ g, gs[i]? = some g ∧ tk < ticksN fs ps g.1 g.2) → Q (.ref r) H')
def setAt {α : Type} (f : Nat → α) (i : Nat) (x : α) : Nat → α := fun j => if j = i then x else f j
theorem setAt_eq {α : Type} {f : Nat → α} {i : Nat} {x : α} : setAt f i x i = x := if_pos rfl
theorem setAt_ne {α : Type} {f : Nat → α} {i j : Nat} {x : α} (h : ¬ j = i) : setAt f i x j = f j := if_neg h
theorem ref_at {as : List Addr} {i : Nat} {x : V} (h : (as.map V.ref)[i]? = some x) : ∃ a, as[i]? = some a ∧ x = .ref a := by
  rw [List.getElem?_map] at h
  cases e : as[i]? with
  | none => rw [e] at h; cases h
  | some g => rw [e] at h; exact ⟨g, rfl, (Option.some.inj h).symm⟩
section
variable {P : Program} {w : World} {K : PySem.W.Frag} {mg : Str → Option Value} {base : Heap} {c : Cs}
abbrev sWait : Stmt := top 29
abbrev nWait : List Str := ["fed", "read", "many", "ahead", "tick"]
theorem scWait : FnScope nWait ["fed", "read", "many"] (defScope sWait) := ⟨rfl, rfl, rfl, by decide +kernel, rfl, by decide +kernel, by decide +kernel⟩
theorem ok_wait {f fL fA : Addr} {fd fdL fdA : FuncData} (F : Fun K "waiting_rows" "waiting_rows" sWait f fd) (T : Txt P w K mg base c) (A_lags : At K mg "lags" fL) (G_lags : FnOk P w K mg base CX0 3 fL fdL ["fed", "read", "many"] (spLags c)) (b_lags : Binds K fdL ["fed", "read", "many"] [])
    (A_number_at : At K mg "number_at" fA) (G_number_at : FnOk P w K mg base CX0 1 fA fdA ["times", "tick"] (spAt c)) (b_number_at : Binds K fdA ["times", "tick"] []) :
    FnOk P w K mg base CX0 4 f fd ["fed", "read", "many"] (spWait c) := by
  refine F.ok scWait (fun vs H Q E h => ?_) (fun cdv A outer s H vs Q E hr h => ?_)
  · obtain ⟨p, q, fs, ps, gs, qs, n, rfl, _⟩ := h
    rfl
  · obtain ⟨p, q, fs, ps, gs, qs, n, rfl, B, few, k⟩ := h
    have nd := scWait.nd
    have hr_lags : Room 3 _ := hr
    have hr_number_at : Room 1 _ := hr.mono (by decide)
    refine ⟨_, (pss_cons (ps_set (i := 3) nd rfl (Or.inr rfl) (pe_op op_cat (pe_lst (pa_cons pe_int pa_nil)) (pe_call G_lags hr_lags (by rfl) A_lags.g A_lags.k b_lags .nil pass0 (pa_cons (pv 0) (pa_cons (pv 1) (pa_cons (pv 2) pa_nil))))))
      (pss_one (ps_ret (pe_lc (own := [("tick", 4)]) (by rfl) nd (pi_range1 (by rfl) T.range (pa_cons (pv 2) pa_nil)) (blkOk_by (N := nWait) (sc := defScope sWait) (by decide +kernel)) (fun _ _ _ _ _ => (pg_name (i := 4) nd rfl (Or.inl rfl))) (fun _ _ _ _ _ => pts_nil) (fun _ _ _ _ _ => (pe_op op_add (pe_ix (ix_listK (K := K) rfl) (pv 3) (pv 4) (fun _ _ => rfl)) (pe_call G_number_at hr_number_at (by rfl) A_number_at.g A_number_at.k b_number_at .nil pass0 (pa_cons (pv 0) (pa_cons (pv 4) pa_nil))))))))), ?_⟩
    refine into ⟨by simp [sizeLine_eq], fun z nz => ⟨_, rfl, _, rfl, _, rfl, p, q, fs, ps, gs, qs, n, rfl, B.same (made nz), few, fun H1 l e1 hl => ?_⟩⟩
    have hz := e1 _ _ (upd_same (H := H) (a := z) (o := .lst [.int 0]))
    have e0 : Same H H1 := (made nz).trans e1
    refine ⟨_, _, _, _, rfl, rfl, hz, hl, by simp [lagsL_len, sizeLine_eq]; omega, fun a na => ?_⟩
    have ha : (upd H1 a (.lst ([V.int 0] ++ (lagsL (at_ fs ps) (at_ gs qs) n).map V.int))) a = some (.lst (([0] ++ lagsL (at_ fs ps) (at_ gs qs) n).map V.int)) := by rw [upd_same]; rfl
    have e2 : Same H (upd H1 a (.lst ([V.int 0] ++ (lagsL (at_ fs ps) (at_ gs qs) n).map V.int))) := e0.trans (made na)
    generalize upd H1 a (.lst ([V.int 0] ++ (lagsL (at_ fs ps) (at_ gs qs) n).map V.int)) = H2 at ha e2
    refine ⟨_, rfl, _, rfl, by omega, by omega, fun D hD => ?_⟩
    rw [show ((n : Int)).toNat = n by omega]
    refine lc_range (lo := 0) (n := n) (fun j H' => H' D = some (.lst ((waitL (at_ fs ps) (at_ gs qs) j).map V.int)) ∧ Same H2 H') ⟨upd_same, made hD⟩ ?_ ?_
    · rintro j H' hj ⟨hw, e⟩
      have B' := B.same (e2.trans e)
      refine ⟨rfl, _, rfl, _, rfl, a, _, _, .int (pre (at_ fs ps) (at_ gs qs) j), rfl, rfl, SqL.of (e _ _ ha), by rw [Int.zero_add]; exact atI_nat (by rw [List.getElem?_map, ahead_at _ _ (by omega)]; rfl), _, rfl, _, rfl, p, fs, ps, j, by rw [Int.zero_add]; rfl, B'.one, B'.g1, _, _, rfl, rfl, _, hw, by rw [List.length_map, waitL_len, sizeLine_eq]; omega, ?_, put_in e hD⟩
      rw [upd_same]
      unfold waitL
      rw [List.range_succ, List.map_append, List.map_append]; rfl
    · rintro H' ⟨hw, e⟩
      exact k _ _ (e2.trans e) hw
abbrev sKeep : Stmt := top 28
abbrev nKeep : List Str := ["fed", "groups", "read", "found", "place", "growth", "waiting", "rows", "tick", "group"]
theorem scKeep : FnScope nKeep ["fed", "groups"] (defScope sKeep) := ⟨rfl, rfl, rfl, by decide +kernel, rfl, by decide +kernel, by decide +kernel⟩
set_option maxHeartbeats 1000000 in
theorem ok_keep {f fC fG fP fT fW fI fJ : Addr} {fd fdC fdG fdP fdT fdW fdI fdJ : FuncData} (F : Fun K "least_keeping" "least_keeping" sKeep f fd) (T : Txt P w K mg base c)
    (A_check_times : At K mg "check_times" fC) (G_check_times : FnOk P w K mg base CX0 1 fC fdC ["times"] (spCheck c)) (b_check_times : Binds K fdC ["times"] [])
    (A_growth_of : At K mg "growth_of" fG) (G_growth_of : FnOk P w K mg base CX0 2 fG fdG ["fed", "read"] (spGrow c)) (b_growth_of : Binds K fdG ["fed", "read"] [])
    (A_common_period : At K mg "common_period" fP) (G_common_period : FnOk P w K mg base CX0 1 fP fdP ["one", "other"] (spPer c)) (b_common_period : Binds K fdP ["one", "other"] [])
    (A_enough_ticks : At K mg "enough_ticks" fT) (G_enough_ticks : FnOk P w K mg base CX0 2 fT fdT ["fed", "read"] (spTicks c)) (b_enough_ticks : Binds K fdT ["fed", "read"] [])
    (A_waiting_rows : At K mg "waiting_rows" fW) (G_waiting_rows : FnOk P w K mg base CX0 4 fW fdW ["fed", "read", "many"] (spWait c)) (b_waiting_rows : Binds K fdW ["fed", "read", "many"] [])
    (M_Growing : Mk K c.grow fI) (G_Growing : FnOk P w K mg base CX0 1 fI fdI ["self", "period", "growth"] (spR2 c.grow "period" "growth")) (b_Growing : Binds K fdI ["self", "period", "growth"] [])
    (M_Keep : Mk K c.keep fJ) (G_Keep : FnOk P w K mg base CX0 1 fJ fdJ ["self", "rows", "tick", "group"] (spK3 c.keep)) (b_Keep : Binds K fdJ ["self", "rows", "tick", "group"] []) :
    FnOk P w K mg base CX0 5 f fd ["fed", "groups"] (spKeep c) := by
  refine F.ok scKeep (fun vs H Q E h => ?_) (fun cdv A outer s H vs Q E hr h => ?_)
  · obtain ⟨p, l, fs, ps, as, gs, rfl, _⟩ := h
    rfl
  · obtain ⟨p, l, fs, ps, as, gs, rfl, t, good, hl, G, g0, g1, k1, k2⟩ := h
    have nd := scKeep.nd
    have hu1 : _ < cLine := hr.in1.units0
    have hr_check_times : Room 1 _ := hr.mono (by decide)
    have hr_growth_of : Room 2 _ := hr.mono (by decide)
    have hr_common_period : Room 1 _ := hr.mono (by decide)
    have hr_enough_ticks : Room 2 _ := hr.mono (by decide)
    have hr_waiting_rows : Room 4 _ := hr
    have hr_Growing : Room 2 _ := hr.mono (by decide)
    have hr_Keep : Room 2 _ := hr.mono (by decide)
    refine ⟨_, (pss_cons (ps_expr (pe_call G_check_times hr_check_times (by rfl) A_check_times.g A_check_times.k b_check_times .nil pass0 (pa_cons (pv 0) pa_nil)))
      (pss_cons (ps_if (PW.pt (pw_or (pt_not (pt_val (pe_callB call_isiT (by rfl) T.isinstance (by decide +kernel) (pa_cons (pv 1) (pa_cons (pe_tup (pa_cons (pe_bltn (v := .ty "list") (by rfl) T.list (by decide +kernel) rfl) (pa_cons (pe_bltn (v := .ty "tuple") (by rfl) T.tuple (by decide +kernel) rfl) pa_nil))) pa_nil))))) (pw_or1 (pt_not (pt_truth (pv 1) (by intro _; rfl))))))
        (pss_one (ps_never))
        pss_nil)
      (pss_cons (ps_for PassesOwn.never rfl (pi_list (pv 1)) (pg_name (i := 2) nd rfl (Or.inl rfl))
        (pss_one (ps_expr (pe_call G_check_times hr_check_times (by rfl) A_check_times.g A_check_times.k b_check_times .nil pass0 (pa_cons (pv 2) pa_nil)))))
      (pss_cons (ps_set (i := 3) nd rfl (Or.inl rfl) (pe_lst pa_nil))
      (pss_cons (ps_for PassesOwn.never rfl (pi_enum (by rfl) T.enumerate (pa_cons (pv 1) pa_nil)) (pg_tup rfl (pgs_cons (pg_name (i := 4) nd rfl (Or.inl rfl)) (pgs_cons (pg_name (i := 2) nd rfl (Or.inl rfl)) pgs_nil)))
        (pss_cons (ps_set (i := 5) nd rfl (Or.inl rfl) (pe_call G_growth_of hr_growth_of (by rfl) A_growth_of.g A_growth_of.k b_growth_of .nil pass0 (pa_cons (pv 0) (pa_cons (pv 2) pa_nil))))
        (pss_cons (ps_if (pt_cmpR op_gt (pv 5) pe_int (nomark _))
          (pss_one (ps_ret (pe_make M_Growing G_Growing hr_Growing (by rfl) T.Growing.g b_Growing .nil pass0 (pa_cons (pe_call G_common_period hr_common_period (by rfl) A_common_period.g A_common_period.k b_common_period .nil pass0 (pa_cons (pv 0) (pa_cons (pv 2) pa_nil))) (pa_cons (pv 5) pa_nil)))))
          pss_nil)
        (pss_cons (ps_set (i := 6) nd rfl (Or.inl rfl) (pe_call G_waiting_rows hr_waiting_rows (by rfl) A_waiting_rows.g A_waiting_rows.k b_waiting_rows .nil pass0 (pa_cons (pv 0) (pa_cons (pv 2) (pa_cons (pe_call G_enough_ticks hr_enough_ticks (by rfl) A_enough_ticks.g A_enough_ticks.k b_enough_ticks .nil pass0 (pa_cons (pv 0) (pa_cons (pv 2) pa_nil))) pa_nil)))))
        (pss_cons (ps_set (i := 7) nd rfl (Or.inl rfl) (pe_callB (cr_max rfl) (by rfl) T.max (by decide +kernel) (pa_cons (pv 6) pa_nil)))
        (pss_one (ps_expr (pe_bm PySem.F.plainAttrs_list PySem.F.slot_list_append PySem.F.type_list_append mt_append (pv 3) (pa_cons (pe_tup (pa_cons (pe_un un_neg (pv 7)) (pa_cons (pe_bm PySem.F.plainAttrs_list PySem.F.slot_list_index PySem.F.type_list_index mt_index (pv 6) (pa_cons (pv 7) pa_nil)) (pa_cons (pv 4) pa_nil)))) pa_nil)))))))))
      (pss_cons (ps_asg (pe_callB (cr_minT rfl hu1) (by rfl) T.min (by decide +kernel) (pa_cons (pv 3) pa_nil)) (pg_tup rfl (pgs_cons (pg_name (i := 7) nd rfl (Or.inl rfl)) (pgs_cons (pg_name (i := 8) nd rfl (Or.inl rfl)) (pgs_cons (pg_name (i := 9) nd rfl (Or.inl rfl)) pgs_nil)))))
      (pss_one (ps_ret (pe_make M_Keep G_Keep hr_Keep (by rfl) T.Keep.g b_Keep .nil pass0 (pa_cons (pe_un un_neg (pv 7)) (pa_cons (pv 8) (pa_cons (pv 9) pa_nil)))))))))))), ?_⟩
    refine into ⟨_, rfl, p, fs, ps, rfl, t, ?_⟩
    refine into ⟨_, rfl, by show 2 ≤ sizeLine; decide, fun tp nt => ⟨.ref l, tp, _, _, _, _, rfl, upd_same, .cons (.ty _) (.cons (.ty _) .nil), .base (.lst (made nt _ _ hl)), kit_lt, _, rfl, iteF ?_⟩⟩
    have e1 : Same H (upd H tp (.tup [.ty "list", .ty "tuple"])) := made nt
    generalize upd H tp (.tup [.ty "list", .ty "tuple"]) = H1 at e1
    have ne : ((as.map V.ref).isEmpty) = false := by
      have := G.len
      cases as with
      | nil => simp at this; omega
      | cons _ _ => rfl
    refine ⟨_, rfl, true, .inl ⟨_, SqL.of (e1 _ _ hl), by rw [ne]; rfl⟩, iteF ?_⟩
    unfold tNext
    dsimp only
    refine into ⟨_, rfl, l, rfl, ⟨_, SqL.of (e1 _ _ hl)⟩, for_list (xs := as.map V.ref) (fun i σ H' => H' = H1 ∧ ∃ v : Option V, σ = [some (.ref p), some (.ref l), v, none, none, none, none, none, none, none]) ⟨rfl, none, rfl⟩ (fun i σ H' _ h => h.1 ▸ SqL.of (e1 _ _ hl)) ?_ ?_⟩
    · rintro i x σ H' hx ⟨rfl, v, rfl⟩
      obtain ⟨a, ha, rfl⟩ := ref_at hx
      have lt : i < gs.length := by rw [← G.len]; exact (List.getElem?_eq_some_iff.mp ha).1
      have tg := (G.at_ i a gs[i] ha (List.getElem?_eq_getElem lt)).1
      exact ⟨_, rfl, a, _, _, rfl, tg.same e1, rfl, some (.ref a), rfl⟩
    · rintro σ H' ⟨rfl, v, rfl⟩
      refine into ⟨Nat.zero_le _, fun fo nf => ?_⟩
      have e2 : Same H (upd H' fo (.lst [])) := e1.trans (made nf)
      have hf0 : (upd H' fo (.lst [])) fo = some (.lst []) := upd_same
      have nfl : H fo = none := e1.free nf
      generalize upd H' fo (.lst []) = H2 at e2 hf0
      refine into ⟨_, rfl, l, _, rfl, SqL.of (e2 _ _ hl), for_it (walk_enum (xs := as.map V.ref)) (fun i σ H' => ∃ (v2 v4 v5 v6 v7 v8 : Option V) (t : Nat → Addr) (m : Nat → Int) (tk : Nat → Nat), σ = [some (.ref p), some (.ref l), v2, some (.ref fo), v4, v5, v6, v7, v8, none] ∧ Same H H' ∧
        H' fo = some (.lst ((List.range i).map fun j => V.ref (t j))) ∧ (∀ j, j < i → H' (t j) = some (.tup ([-(m j), (tk j : Int), (j : Int)].map V.int))) ∧
        ∀ j g, j < i → gs[j]? = some g → First (fun u => pre (at_ fs ps) (at_ g.1 g.2) u + at_ fs ps u) (m j) (tk j) ∧ tk j < ticksN fs ps g.1 g.2 ∧ growth fs ps g.1 g.2 ≤ 0) ⟨v, none, none, none, none, none, fun _ => 0, fun _ => 0, fun _ => 0, rfl, e2, hf0, fun j h => absurd h (Nat.not_lt_zero j), fun j g h => absurd h (Nat.not_lt_zero j)⟩ (fun i σ H' _ ⟨_, _, _, _, _, _, _, _, _, _, e, _⟩ => SqL.of (e _ _ hl)) ?_ ?_⟩
      · rintro i x σ H3 H4 hi ⟨v2, v4, v5, v6, v7, v8, tt, m, tk, rfl, e3, hf, tup, inf⟩ ⟨T1, x1, x2, rfl, nT, rfl, ex1, ex2⟩
        cases (Option.some.inj ex1)
        obtain ⟨a, ha, rfl⟩ := ref_at ex2
        have lt : i < gs.length := by rw [← G.len]; exact (List.getElem?_eq_some_iff.mp ha).1
        have hg : gs[i]? = some gs[i] := List.getElem?_eq_getElem lt
        generalize gs[i] = g at hg
        obtain ⟨tg, gg⟩ := G.at_ i a g ha hg
        have e4 : Same H3 (upd H3 T1 (.tup [.int (i : Nat), .ref a])) := made nT
        have hT : (upd H3 T1 (.tup [.int (i : Nat), .ref a])) T1 = some (.tup [.int (i : Nat), .ref a]) := upd_same
        generalize upd H3 T1 (.tup [.int (i : Nat), .ref a]) = H4 at e4 hT
        have e5 : Same H H4 := e3.trans e4
        have B : Both c H4 p a fs ps g.1 g.2 := ⟨t.same e5, tg.same e5, good, gg⟩
        have W := two_of good gg
        refine ⟨T1, _, rfl, SqT.of hT, rfl, _, _, rfl, _, _, rfl, rfl, ?_⟩
        refine into ⟨_, rfl, _, rfl, p, a, fs, ps, g.1, g.2, rfl, B, ?_⟩
        refine into ⟨_, rfl, _, _, rfl, rfl, _, rfl, ?_⟩
        rcases Decidable.em (growth fs ps g.1 g.2 > 0) with c1 | c1
        · rw [decide_eq_true c1]
          refine iteT ⟨_, rfl, _, rfl, p, a, fs, ps, g.1, g.2, rfl, B.one, B.two, B.g1, B.g2, _, rfl, fun x dx nx nd ne => ⟨x, dx, _, _, rfl, upd_same, fun H' o hx => ⟨rfl, ?_⟩⟩⟩
          exact k1 i g hg c1 (fun j g' hj hg' => (inf j g' hj hg').2.2) H' x dx (e5.trans (same_made nx nd o)) hx
        · rw [decide_eq_false c1]
          refine iteF ?_
          dsimp only
          have few := ticksN_le good gg
          refine into ⟨_, rfl, _, rfl, _, rfl, _, rfl, p, a, fs, ps, g.1, g.2, rfl, B, p, a, fs, ps, g.1, g.2, _, rfl, B, few, fun H5 wl e6 hw => ?_⟩
          have e7 : Same H3 H5 := e4.trans e6
          have hf5 := e7 _ _ hf
          generalize hN : ticksN fs ps g.1 g.2 = N at hw few
          refine into ⟨_, rfl, wl, _, rfl, SqL.of hw, ?_, fun m0 mem all => ?_⟩
          · rw [waitL_len, ← hN]
            have := W.pos
            unfold ticksN; omega
          · obtain ⟨j, hj, first⟩ := first_at mem
            have hj' : ((waitL (at_ fs ps) (at_ g.1 g.2) N).map V.int)[j]? = some (.int m0) := by rw [List.getElem?_map, hj]; rfl
            refine ⟨_, rfl, .inl ⟨rfl, _, SqL.of hf5⟩, _, rfl, _, rfl, _, rfl, .inl ⟨rfl, _, SqL.of hw⟩, _, rfl, wl, _, .int m0, j, .int m0, rfl, rfl, SqL.of hw, rfl, all_flat _, hj', beq_self_eq_true m0, fun i' z hi' hz => ?_, ?_⟩
            · obtain ⟨n', hn', rfl⟩ := int_at hz
              exact beq_eq_false_iff_ne.mpr fun e => first i' hi' (e ▸ hn')
            · refine ⟨_, rfl, by show 3 ≤ sizeLine; decide, fun T2 nT2 => ⟨fo, _, _, rfl, rfl, made nT2 _ _ hf5, ?_, ?_⟩⟩
              · rw [List.length_map, List.length_range, sizeLine_eq]; omega
              have hf6 : fo ≠ T2 := ne_of_none hf5 nT2
              have hTn : T2 ≠ fo := Ne.symm hf6
              have eX : Same H3 (upd H5 T2 (.tup [.int (-m0), .int (j : Int), .int (i : Nat)])) := e7.trans (made nT2)
              have oX : Off fo H3 (upd (upd H5 T2 (.tup [.int (-m0), .int (j : Int), .int (i : Nat)])) fo (.lst (((List.range i).map fun j => V.ref (tt j)) ++ [.ref T2]))) := (Off.same eX).trans Off.upd
              have win := greatest_wait W (Int.not_lt.mp c1) (m := m0) fun y hy => all y (by rw [← hN]; exact hy)
              have top := first_of (g := fun u => pre (at_ fs ps) (at_ g.1 g.2) u + at_ fs ps u) hj first win
              refine ⟨_, _, _, _, _, _, setAt tt i T2, setAt m i m0, setAt tk i j, rfl, ?_, ?_, ?_, ?_⟩
              · exact fun b o z => oX b o (e3 _ _ z) (ne_of_none z nfl)
              · rw [upd_same, List.range_succ, List.map_append]
                congr 1
                congr 1
                congr 1
                · refine List.map_congr_left fun j' h => ?_
                  rw [setAt_ne (by have := List.mem_range.mp h; omega)]
                · rw [List.map_cons, List.map_nil, setAt_eq]
              · intro j' hj'
                rcases Nat.lt_or_eq_of_le (Nat.le_of_lt_succ hj') with h | h
                · rw [setAt_ne (by omega), setAt_ne (by omega), setAt_ne (by omega)]
                  have := tup j' h
                  exact oX _ _ this fun z => by rw [z, hf] at this; cases this
                · subst h
                  rw [setAt_eq, setAt_eq, setAt_eq, upd_ne hTn, upd_same]; rfl
              · intro j' g' hj' hg'
                rcases Nat.lt_or_eq_of_le (Nat.le_of_lt_succ hj') with h | h
                · rw [setAt_ne (by omega)]
                  rw [setAt_ne (by omega)]
                  exact inf j' g' h hg'
                · subst h
                  rw [hg] at hg'
                  cases hg'
                  rw [setAt_eq, setAt_eq]
                  exact ⟨top.1, by rw [hN]; exact top.2, by omega⟩
      · rintro σ H3 ⟨v2, v4, v5, v6, v7, v8, tt, m, tk, rfl, e3, hf, tup, inf⟩
        rw [List.length_map, G.len] at hf tup inf
        obtain ⟨n, hn⟩ : ∃ n, gs.length = n + 1 := ⟨gs.length - 1, by omega⟩
        rw [hn] at hf tup inf
        refine into ⟨_, rfl, fo, n, tt, fun j => [-(m j), (tk j : Int), (j : Int)], rfl, SqL.of hf, fun i hi => SqT.of (tup i (by omega)), fun i hi best => ?_⟩
        have top : ∀ j, j ≤ n → m j < m i ∨ (m j = m i ∧ (tk i < tk j ∨ (tk i = tk j ∧ i ≤ j))) := fun j hj => by
          have z := best j hj
          rw [HT.lexLt_cons] at z
          split at z
          · rw [HT.lexLt_cons] at z
            split at z
            · rw [HT.lexLt_cons] at z
              split at z
              · omega
              · have := of_decide_eq_false z; omega
            · have := of_decide_eq_false z; omega
          · have := of_decide_eq_false z; omega
        refine ⟨tt i, _, rfl, SqT.of (tup i (by omega)), rfl, _, _, rfl, _, _, rfl, _, _, rfl, rfl, ?_⟩
        refine ⟨_, rfl, _, rfl, _, rfl, _, rfl, fun x dx nx nd ne => ⟨x, dx, _, _, _, rfl, upd_same, fun H' o hx => ⟨rfl, ?_⟩⟩⟩
        have hi' : gs[i]? = some gs[i] := List.getElem?_eq_getElem (by omega)
        refine k2 (fun j g hg => (inf j g (by have := (List.getElem?_eq_some_iff.mp hg).1; omega) hg).2.2) H' x dx (m i) (tk i) i (e3.trans (same_made nx nd o)) ?_ ?_ ⟨_, hi', (inf i _ (by omega) hi').2.1⟩
        · rw [hx]
          show some (HO.ins c.keep dx (kF (.int (- -(m i))) (.int (tk i)) (.int (i : Nat)))) = _
          rw [Int.neg_neg]
        · refine keep_top (by show i < (gs.map fun g => at_ g.1 g.2).length; rw [List.length_map]; omega) (fun j R hR => ?_) fun j hj => top j (by have : j < (gs.map fun g => at_ g.1 g.2).length := hj; rw [List.length_map] at this; omega)
          have hR : (gs.map fun g => at_ g.1 g.2)[j]? = some R := hR
          rw [List.getElem?_map] at hR
          cases hg : gs[j]? with
          | none => rw [hg] at hR; cases hR
          | some g =>
            rw [hg] at hR
            cases (Option.some.inj hR : at_ g.1 g.2 = R)
            exact (inf j g (by have := (List.getElem?_eq_some_iff.mp hg).1; omega) hg).1
end
end KT
end
section
/-! Lags at any tick, sums of ticks, what a rate shows. -/
namespace KT
open PySem L2
theorem run_diff (fs ps gs qs : List Int) (t : Nat) : pre (at_ fs ps) (at_ gs qs) t = run (diff fs ps gs qs) 0 0 t := by
  have := pre_run (at_ fs ps) (at_ gs qs) 0 t
  rw [Nat.zero_add] at this
  exact this
theorem sumW_bound {d : Nat → Int} {B : Int} (h : ∀ i, -B ≤ d i ∧ d i ≤ B) (c : Nat) : ∀ n : Nat, -(B * n) ≤ sumW d c n ∧ sumW d c n ≤ B * n
  | 0 => by show -(B * ((0 : Nat) : Int)) ≤ 0 ∧ 0 ≤ B * ((0 : Nat) : Int); simp
  | n + 1 => by
    have a := sumW_bound h c n
    have b := h (c + n)
    show -(B * ((n + 1 : Nat) : Int)) ≤ sumW d c n + d (c + n) ∧ sumW d c n + d (c + n) ≤ B * ((n + 1 : Nat) : Int)
    rw [Int.natCast_succ, Int.mul_add, Int.mul_one]; omega
theorem growth_small {fs ps gs qs : List Int} (g1 : Good fs ps) (g2 : Good gs qs) : -100000 ≤ growth fs ps gs qs ∧ growth fs ps gs qs ≤ 100000 := by
  have a := sumW_bound (d := fun i => at_ fs ps i - at_ gs qs i) (B := 100) (fun i => by
    have h1 := g1.low _ (at_mem g1.ne i); have h2 := g1.high _ (at_mem g1.ne i); have h3 := g2.low _ (at_mem g2.ne i); have h4 := g2.high _ (at_mem g2.ne i)
    show -100 ≤ at_ fs ps i - at_ gs qs i ∧ at_ fs ps i - at_ gs qs i ≤ 100
    omega) (max fs.length gs.length) (Nat.lcm ps.length qs.length)
  have b := perN_le g1 g2
  have b : Nat.lcm ps.length qs.length ≤ 576 := b
  unfold growth; omega
theorem sum_small {xs : List Int} (low : ∀ x ∈ xs, 0 ≤ x) (high : ∀ x ∈ xs, x ≤ 100) : 0 ≤ xs.sum ∧ xs.sum ≤ 100 * xs.length := by
  induction xs with
  | nil => simp
  | cons x xs ih =>
    have a := ih (fun y h => low y (List.mem_cons_of_mem _ h)) fun y h => high y (List.mem_cons_of_mem _ h)
    have b := low x List.mem_cons_self; have c := high x List.mem_cons_self
    rw [List.sum_cons, List.length_cons]; omega
def spAfter (c : Cs) : Sp := fun vs H Q _ => ∃ (p q : Addr) (fs ps gs qs : List Int) (x : Int) (t n : Nat), vs = [.ref p, .ref q, .int x, .int t, .int n] ∧ Both c H p q fs ps gs qs ∧ n ≤ 2000 ∧ t ≤ 1000000 ∧ ∀ H', Same H H' → Q (.int (run (diff fs ps gs qs) x t n)) H'
def spAhead (c : Cs) : Sp := fun vs H Q _ => ∃ (p q : Addr) (fs ps gs qs : List Int) (t : Nat), vs = [.ref p, .ref q, .int t] ∧ Both c H p q fs ps gs qs ∧ ∀ H', Same H H' → Q (.int (pre (at_ fs ps) (at_ gs qs) t)) H'
def spUpTo (c : Cs) : Sp := fun vs H Q _ => ∃ (p : Addr) (fs ps : List Int) (t : Nat), vs = [.ref p, .int t] ∧ TimesAt c.times H p fs ps ∧ Good fs ps ∧ ∀ H', Same H H' → Q (.int (sumW (at_ fs ps) 0 t)) H'
/-- what a rate shows -/
def ShowsIs (F : Nat → Int) (most n : Int) (v : V) : Prop := 0 ≤ n ∧ (∀ t, pre F (fun _ => cap n) (t + 1) ≤ most) ∧ ((n = 0 ∧ v = .non) ∨ (0 < n ∧ ∃ t : Nat, v = .int t ∧ most < pre F (fun _ => cap (n - 1)) (t + 1)))
def spShows (c : Cs) : Sp := fun vs H Q _ => ∃ (p dx pf : Addr) (n : Int) (v : V) (fs ps : List Int) (most : Int), vs = [.ref p, .ref pf, .int most] ∧ H p = some (.ins c.rate dx (rF "number" "tick" (.int n) v)) ∧ (v = .non ∨ ∃ t : Nat, v = .int t) ∧ TimesAt c.times H pf fs ps ∧ Good fs ps ∧ 0 ≤ most ∧ most ≤ 1000 ∧
  ∀ H' b, Same H H' → (b = true ↔ ShowsIs (at_ fs ps) most n v) → Q (.bl b) H'
section
variable {P : Program} {w : World} {K : PySem.W.Frag} {mg : Str → Option Value} {base : Heap} {c : Cs}
abbrev sAfter : Stmt := top 23
theorem scAfter : FnScope ["fed", "read", "lag", "first", "many"] ["fed", "read", "lag", "first", "many"] (defScope sAfter) := ⟨rfl, rfl, rfl, by decide +kernel, rfl, by decide +kernel, by decide +kernel⟩
theorem ok_after {f fF : Addr} {fd fdF : FuncData} (F : Fun K "lag_after" "lag_after" sAfter f fd) (A_lags_from : At K mg "lags_from" fF) (G_lags_from : FnOk P w K mg base CX0 2 fF fdF ["fed", "read", "lag", "first", "many"] (spFrom c)) (b_lags_from : Binds K fdF ["fed", "read", "lag", "first", "many"] []) :
    FnOk P w K mg base CX0 3 f fd ["fed", "read", "lag", "first", "many"] (spAfter c) := by
  refine F.ok scAfter (fun vs H Q E h => ?_) (fun cdv A outer s H vs Q E hr h => ?_)
  · obtain ⟨p, q, fs, ps, gs, qs, x, t, n, rfl, _⟩ := h
    rfl
  · obtain ⟨p, q, fs, ps, gs, qs, x, t, n, rfl, B, few, far, k⟩ := h
    have hr_lags_from : Room 2 _ := hr
    refine ⟨_, (pss_one (ps_ret (pe_ifExp (pt_cmpR op_gt (pv 4) pe_int (nomark _)) (pe_ix ix_list (pe_call G_lags_from hr_lags_from (by rfl) A_lags_from.g A_lags_from.k b_lags_from .nil pass0 (pa_cons (pv 0) (pa_cons (pv 1) (pa_cons (pv 2) (pa_cons (pv 3) (pa_cons (pv 4) pa_nil)))))) (pe_un un_neg pe_int) (fun _ _ => rfl)) (pv 2)))), ?_⟩
    refine ⟨_, rfl, _, _, rfl, rfl, _, rfl, ?_⟩
    cases n with
    | zero => exact iteF ⟨_, rfl, k H (Same.refl H)⟩
    | succ n =>
      rw [decide_eq_true (show ((n + 1 : Nat) : Int) > 0 by omega)]
      refine iteT ⟨_, rfl, _, rfl, _, rfl, _, rfl, _, rfl, p, q, fs, ps, gs, qs, x, t, n + 1, rfl, B, few, far, fun H1 l e1 hl => ?_⟩
      rw [runL_succ, List.map_append] at hl
      exact ⟨1, rfl, l, _, _, .int (run (diff fs ps gs qs) x t (n + 1)), rfl, rfl, SqL.of hl, atI_last _ _, k H1 e1⟩
abbrev sAhead : Stmt := top 24
abbrev nAhead : List Str := ["fed", "read", "tick", "ahead", "length", "growth", "lag", "rounds", "left", "alone"]
theorem scAhead : FnScope nAhead ["fed", "read", "tick"] (defScope sAhead) := ⟨rfl, rfl, rfl, by decide +kernel, rfl, by decide +kernel, by decide +kernel⟩
theorem ok_ahead {f fF fP fG fA : Addr} {fd fdF fdP fdG fdA : FuncData} (F : Fun K "lag_ahead" "lag_ahead" sAhead f fd) (T : Txt P w K mg base c) (A_common_front : At K mg "common_front" fF) (G_common_front : FnOk P w K mg base CX0 1 fF fdF ["one", "other"] (spFront c)) (b_common_front : Binds K fdF ["one", "other"] [])
    (A_common_period : At K mg "common_period" fP) (G_common_period : FnOk P w K mg base CX0 1 fP fdP ["one", "other"] (spPer c)) (b_common_period : Binds K fdP ["one", "other"] [])
    (A_growth_of : At K mg "growth_of" fG) (G_growth_of : FnOk P w K mg base CX0 2 fG fdG ["fed", "read"] (spGrow c)) (b_growth_of : Binds K fdG ["fed", "read"] [])
    (A_lag_after : At K mg "lag_after" fA) (G_lag_after : FnOk P w K mg base CX0 3 fA fdA ["fed", "read", "lag", "first", "many"] (spAfter c)) (b_lag_after : Binds K fdA ["fed", "read", "lag", "first", "many"] []) :
    FnOk P w K mg base CX0 4 f fd ["fed", "read", "tick"] (spAhead c) := by
  refine F.ok scAhead (fun vs H Q E h => ?_) (fun cdv A outer s H vs Q E hr h => ?_)
  · obtain ⟨p, q, fs, ps, gs, qs, t, rfl, _⟩ := h
    rfl
  · obtain ⟨p, q, fs, ps, gs, qs, t, rfl, B, k⟩ := h
    have nd := scAhead.nd
    have hr_common_front : Room 1 _ := hr.mono (by decide)
    have hr_common_period : Room 1 _ := hr.mono (by decide)
    have hr_growth_of : Room 2 _ := hr.mono (by decide)
    have hr_lag_after : Room 3 _ := hr
    have W := two_of B.g1 B.g2
    have few := perN_le B.g1 B.g2
    have ff : frontN fs gs ≤ 24 := by have := B.g1.few; have := B.g2.few; unfold frontN; omega
    have gb := growth_small B.g1 B.g2
    have pos := W.pos
    refine ⟨_, (pss_cons (ps_par3 (i := 3) (j := 4) (l := 5) (by rfl) nd rfl rfl rfl (by decide) (by decide) (by decide) rfl rfl rfl (pa_cons (pe_call G_common_front hr_common_front (by rfl) A_common_front.g A_common_front.k b_common_front .nil pass0 (pa_cons (pv 0) (pa_cons (pv 1) pa_nil))) (pa_cons (pe_call G_common_period hr_common_period (by rfl) A_common_period.g A_common_period.k b_common_period .nil pass0 (pa_cons (pv 0) (pa_cons (pv 1) pa_nil))) (pa_cons (pe_call G_growth_of hr_growth_of (by rfl) A_growth_of.g A_growth_of.k b_growth_of .nil pass0 (pa_cons (pv 0) (pa_cons (pv 1) pa_nil))) pa_nil))) (by rfl))
      (pss_cons (ps_if (pt_cmpR op_le (pv 2) (pv 3) (nomark _))
        (pss_one (ps_ret (pe_call G_lag_after hr_lag_after (by rfl) A_lag_after.g A_lag_after.k b_lag_after .nil pass0 (pa_cons (pv 0) (pa_cons (pv 1) (pa_cons pe_int (pa_cons pe_int (pa_cons (pv 2) pa_nil))))))))
        pss_nil)
      (pss_cons (ps_set (i := 6) nd rfl (Or.inl rfl) (pe_call G_lag_after hr_lag_after (by rfl) A_lag_after.g A_lag_after.k b_lag_after .nil pass0 (pa_cons (pv 0) (pa_cons (pv 1) (pa_cons pe_int (pa_cons pe_int (pa_cons (pv 3) pa_nil)))))))
      (pss_cons (ps_asg (pe_callB call_divmod (by rfl) T.divmod (by decide +kernel) (pa_cons (pe_op op_sub (pv 2) (pv 3)) (pa_cons (pv 4) pa_nil))) (pg_tup rfl (pgs_cons (pg_name (i := 7) nd rfl (Or.inl rfl)) (pgs_cons (pg_name (i := 8) nd rfl (Or.inl rfl)) pgs_nil))))
      (pss_cons (ps_if (pt_cmpR op_gt (pv 7) pe_int (nomark _))
        (pss_cons (ps_set (i := 9) nd rfl (Or.inl rfl) (pe_call G_lag_after hr_lag_after (by rfl) A_lag_after.g A_lag_after.k b_lag_after .nil pass0 (pa_cons (pv 0) (pa_cons (pv 1) (pa_cons pe_int (pa_cons (pv 3) (pa_cons (pv 4) pa_nil)))))))
        (pss_one (ps_set (i := 6) nd rfl (Or.inl rfl) (pe_callB (call_max2 rfl) (by rfl) T.max (by decide +kernel) (pa_cons (pe_op op_add (pv 6) (pe_op op_mul (pv 7) (pv 5))) (pa_cons (pe_op op_add (pv 9) (pe_op op_mul (pe_op op_sub (pv 7) pe_int) (pe_callB (call_max2 rfl) (by rfl) T.max (by decide +kernel) (pa_cons pe_int (pa_cons (pv 5) pa_nil))))) pa_nil))))))
        pss_nil)
      (pss_one (ps_ret (pe_call G_lag_after hr_lag_after (by rfl) A_lag_after.g A_lag_after.k b_lag_after .nil pass0 (pa_cons (pv 0) (pa_cons (pv 1) (pa_cons (pv 6) (pa_cons (pv 3) (pa_cons (pv 8) pa_nil))))))))))))), ?_⟩
    refine into ⟨_, rfl, _, rfl, p, q, fs, ps, gs, qs, rfl, B.one, B.two, _, rfl, _, rfl, p, q, fs, ps, gs, qs, rfl, B.one, B.two, B.g1, B.g2, _, rfl, _, rfl, p, q, fs, ps, gs, qs, rfl, B, _, _, _, rfl, ?_⟩
    refine into ⟨_, rfl, _, rfl, _, _, rfl, rfl, _, rfl, ?_⟩
    rcases Decidable.em (t ≤ frontN fs gs) with c1 | c1
    · rw [decide_eq_true (show (t : Int) ≤ ((max fs.length gs.length : Nat) : Int) by unfold frontN at c1; omega)]
      exact iteT ⟨_, rfl, _, rfl, _, rfl, p, q, fs, ps, gs, qs, 0, 0, t, rfl, B, by omega, by omega, fun H1 e1 => by rw [← run_diff]; exact k H1 e1⟩
    · rw [decide_eq_false (show ¬ (t : Int) ≤ ((max fs.length gs.length : Nat) : Int) by unfold frontN at c1; omega)]
      refine iteF ?_
      dsimp only
      refine into ⟨_, rfl, _, rfl, _, rfl, p, q, fs, ps, gs, qs, 0, 0, frontN fs gs, rfl, B, by omega, by omega, fun H1 e1 => ?_⟩
      have B1 := B.same e1
      rw [← run_diff]
      refine into ⟨_, rfl, _, rfl, _, _, rfl, rfl, _, rfl, _, _, rfl, ⟨by show (0 : Int) < (perN ps qs : Int); omega, by show (perN ps qs : Int) < 1073741824; omega⟩, fun dp nd2 => ⟨dp, _, rfl, SqT.of upd_same, rfl, _, _, rfl, _, _, rfl, rfl, ?_⟩⟩
      have e2 : Same H _ := e1.trans (made (o := HO.tup [.int (((t : Int) - ((max fs.length gs.length : Nat) : Int)) / ((Nat.lcm ps.length qs.length : Nat) : Int)), .int (((t : Int) - ((max fs.length gs.length : Nat) : Int)) % ((Nat.lcm ps.length qs.length : Nat) : Int))]) nd2)
      have es : (t : Int) - ((max fs.length gs.length : Nat) : Int) = ((t - frontN fs gs : Nat) : Int) := by unfold frontN at c1 ⊢; omega
      have er : ((t : Int) - ((max fs.length gs.length : Nat) : Int)) / ((Nat.lcm ps.length qs.length : Nat) : Int) = (((t - frontN fs gs) / perN ps qs : Nat) : Int) := by rw [es, Int.natCast_ediv]; rfl
      have el : ((t : Int) - ((max fs.length gs.length : Nat) : Int)) % ((Nat.lcm ps.length qs.length : Nat) : Int) = (((t - frontN fs gs) % perN ps qs : Nat) : Int) := by rw [es, Int.natCast_emod]; rfl
      rw [er, el] at e2 ⊢
      generalize upd H1 dp (HO.tup [.int (((t - frontN fs gs) / perN ps qs : Nat) : Int), .int (((t - frontN fs gs) % perN ps qs : Nat) : Int)]) = H2 at e2
      have B2 := B.same e2
      have lt := Nat.mod_lt (t - frontN fs gs) pos
      have far := pre_far W (t := t) (by omega)
      unfold farLag at far
      generalize (t - frontN fs gs) / perN ps qs = r at far
      generalize (t - frontN fs gs) % perN ps qs = l at far lt
      have last : ∀ (x : Int) (H3 : Hp), Same H2 H3 → x = (if r > 0 then max (pre (at_ fs ps) (at_ gs qs) (frontN fs gs) + (r : Int) * growth fs ps gs qs) (run (diff fs ps gs qs) 0 (frontN fs gs) (perN ps qs) + ((r : Int) - 1) * max 0 (growth fs ps gs qs)) else pre (at_ fs ps) (at_ gs qs) (frontN fs gs)) →
          spAfter c [.ref p, .ref q, .int x, .int (frontN fs gs : Nat), .int (l : Nat)] H3 Q E0 := fun x H3 e3 hx => ⟨p, q, fs, ps, gs, qs, x, frontN fs gs, l, rfl, B2.same e3, by omega, by omega, fun H4 e4 => by
          have z : run (diff fs ps gs qs) x (frontN fs gs) l = pre (at_ fs ps) (at_ gs qs) t := by rw [far, hx]; rfl
          rw [z]; exact k H4 ((e2.trans e3).trans e4)⟩
      refine into ⟨_, rfl, _, _, rfl, rfl, _, rfl, ?_⟩
      rcases Decidable.em (r > 0) with c2 | c2
      · rw [decide_eq_true (show (r : Int) > 0 by omega)]
        refine iteT ?_
        refine into ⟨_, rfl, _, rfl, _, rfl, _, rfl, p, q, fs, ps, gs, qs, 0, frontN fs gs, perN ps qs, rfl, B2, by omega, by omega, fun H3 e3 => ?_⟩
        refine ⟨_, rfl, _, rfl, _, rfl, _, _, rfl, rfl, .inr ⟨?_, ?_⟩, _, _, rfl, rfl, _, rfl, _, rfl, _, _, rfl, rfl, _, rfl, _, _, rfl, _, _, rfl, rfl, .inr ⟨?_, ?_⟩, _, _, rfl, rfl, _, _, rfl, ?_⟩
        · omega
        · omega
        · split <;> omega
        · split <;> omega
        · refine ⟨_, rfl, _, rfl, _, rfl, _, rfl, _, rfl, last _ H3 e3 ?_⟩
          rw [if_pos c2]
          rw [show (if growth fs ps gs qs > 0 then growth fs ps gs qs else 0) = max 0 (growth fs ps gs qs) by split <;> omega]
          split <;> omega
      · rw [decide_eq_false (show ¬ (r : Int) > 0 by omega)]
        refine iteF ?_
        exact ⟨_, rfl, _, rfl, _, rfl, _, rfl, _, rfl, last _ H2 (Same.refl H2) (by rw [if_neg c2])⟩
end
end KT
end
section
/-! Methods. -/
namespace KT
open PySem L2
section
variable {P : Program} {w : World} {K : PySem.W.Frag} {mg : Str → Option Value} {base : Heap} {c : Cs}
abbrev sTAt : Stmt := inClass (top 10) 6
theorem scTAt : FnScope ["self", "tick"] ["self", "tick"] (defScope sTAt) := ⟨rfl, rfl, rfl, by decide +kernel, rfl, by decide +kernel, by decide +kernel⟩
theorem ok_tat {f fA : Addr} {fd fdA : FuncData} (F : Fun K "at" "Times.at" sTAt f fd) (A_number_at : At K mg "number_at" fA) (G_number_at : FnOk P w K mg base CX0 1 fA fdA ["times", "tick"] (spAt c)) (b_number_at : Binds K fdA ["times", "tick"] []) :
    FnOk P w K mg base CX0 2 f fd ["self", "tick"] (spAt c) := by
  refine F.ok scTAt (fun vs H Q E h => ?_) (fun cdv A outer s H vs Q E hr h => ?_)
  · obtain ⟨p, fs, ps, t, rfl, _⟩ := h
    rfl
  · obtain ⟨p, fs, ps, t, rfl, h1, h2, k⟩ := h
    have hr_number_at : Room 1 _ := hr
    exact ⟨_, (pss_one (ps_ret (pe_call G_number_at hr_number_at (by rfl) A_number_at.g A_number_at.k b_number_at .nil pass0 (pa_cons (pv 0) (pa_cons (pv 1) pa_nil))))), _, rfl, _, rfl, p, fs, ps, t, rfl, h1, h2, k⟩
abbrev sUp : Stmt := inClass (top 10) 7
theorem scUp : FnScope ["self", "tick", "rounds", "left"] ["self", "tick"] (defScope sUp) := ⟨rfl, rfl, rfl, by decide +kernel, rfl, by decide +kernel, by decide +kernel⟩
theorem ok_up {f : Addr} {fd : FuncData} (F : Fun K "up_to" "Times.up_to" sUp f fd) (T : Txt P w K mg base c) : FnOk P w K mg base CX0 1 f fd ["self", "tick"] (spUpTo c) := by
  refine F.ok scUp (fun vs H Q E h => ?_) (fun cdv A outer s H vs Q E hr h => ?_)
  · obtain ⟨p, fs, ps, t, rfl, _⟩ := h
    rfl
  · obtain ⟨p, fs, ps, t, rfl, ⟨dx, a, b, hp, ha, hb⟩, good, k⟩ := h
    have nd := scUp.nd
    have up := at_upto (f := fs) good.ne t
    have pos := good.pos
    have few := good.few'
    refine ⟨_, (pss_cons (ps_if (pt_cmpR op_le (pv 1) (pe_callB call_len_seq (by rfl) T.len PySem.boot_len (pa_cons (pe_fld (pv 0) rfl) pa_nil)) (nomark _))
        (pss_one (ps_ret (pe_callB (cr_sum rfl) (by rfl) T.sum (by decide +kernel) (pa_cons (pe_slice sl_list (pe_fld (pv 0) rfl) po_none (po_some (pv 1))) pa_nil))))
        pss_nil)
      (pss_cons (ps_asg (pe_callB call_divmod (by rfl) T.divmod (by decide +kernel) (pa_cons (pe_op op_sub (pv 1) (pe_callB call_len_seq (by rfl) T.len PySem.boot_len (pa_cons (pe_fld (pv 0) rfl) pa_nil))) (pa_cons (pe_callB call_len_seq (by rfl) T.len PySem.boot_len (pa_cons (pe_fld (pv 0) rfl) pa_nil)) pa_nil))) (pg_tup rfl (pgs_cons (pg_name (i := 2) nd rfl (Or.inl rfl)) (pgs_cons (pg_name (i := 3) nd rfl (Or.inl rfl)) pgs_nil))))
      (pss_one (ps_ret (pe_op op_add (pe_op op_add (pe_callB (cr_sum rfl) (by rfl) T.sum (by decide +kernel) (pa_cons (pe_fld (pv 0) rfl) pa_nil)) (pe_op op_mul (pv 2) (pe_callB (cr_sum rfl) (by rfl) T.sum (by decide +kernel) (pa_cons (pe_fld (pv 0) rfl) pa_nil)))) (pe_callB (cr_sum rfl) (by rfl) T.sum (by decide +kernel) (pa_cons (pe_slice sl_list (pe_fld (pv 0) rfl) po_none (po_some (pv 3))) pa_nil))))))), ?_⟩
    refine ⟨_, rfl, _, rfl, p, _, dx, _, _, rfl, hp, T.Times.cl, T.n_front, lk_front, a, _, rfl, .inl (SqL.of ha), _, _, rfl, rfl, _, rfl, ?_⟩
    rw [List.length_map]
    rcases Decidable.em (t ≤ fs.length) with c1 | c1
    · rw [decide_eq_true (show (t : Int) ≤ (fs.length : Int) by omega)]
      rw [if_pos c1] at up
      refine iteT ⟨_, rfl, p, _, dx, _, _, rfl, hp, T.Times.cl, T.n_front, lk_front, _, rfl, _, rfl, a, _, rfl, SqL.of ha, fun l nl => ?_⟩
      rw [cut_take (by rw [List.length_map]; exact c1), ← List.map_take]
      have hl : (upd H l (.lst ((fs.take t).map V.int))) l = some (.lst ((fs.take t).map V.int)) := upd_same
      exact ⟨l, fs.take t, rfl, SqL.of hl, by rw [← up]; exact k _ (made nl)⟩
    · rw [decide_eq_false (show ¬ (t : Int) ≤ (fs.length : Int) by omega)]
      rw [if_neg c1] at up
      refine iteF ?_
      dsimp only
      refine into ⟨_, rfl, _, rfl, p, _, dx, _, _, rfl, hp, T.Times.cl, T.n_front, lk_front, a, _, rfl, .inl (SqL.of ha), _, _, rfl, rfl, _, rfl, p, _, dx, _, _, rfl, hp, T.Times.cl, T.n_period, lk_period, b, _, rfl, .inl (SqL.of hb), _, _, rfl, ⟨by rw [List.length_map]; omega, by rw [List.length_map]; omega⟩, fun dp nd2 => ⟨dp, _, rfl, SqT.of upd_same, rfl, _, _, rfl, _, _, rfl, rfl, ?_⟩⟩
      rw [List.length_map, List.length_map]
      have es : (t : Int) - (fs.length : Int) = ((t - fs.length : Nat) : Int) := by omega
      have er : ((t : Int) - (fs.length : Int)) / (ps.length : Int) = (((t - fs.length) / ps.length : Nat) : Int) := by rw [es, Int.natCast_ediv]
      have el : ((t : Int) - (fs.length : Int)) % (ps.length : Int) = (((t - fs.length) % ps.length : Nat) : Int) := by rw [es, Int.natCast_emod]
      rw [er, el]
      have lt := Nat.mod_lt (t - fs.length) pos
      generalize (t - fs.length) / ps.length = r at up
      generalize (t - fs.length) % ps.length = l at up lt
      have e2 := made (H := H) (p := dp) (o := HO.tup [.int ((r : Nat) : Int), .int ((l : Nat) : Int)]) nd2
      generalize upd H dp (HO.tup [.int ((r : Nat) : Int), .int ((l : Nat) : Int)]) = H2 at e2
      have hp2 := e2 _ _ hp; have ha2 := e2 _ _ ha; have hb2 := e2 _ _ hb
      have sm := sum_small (xs := ps) (fun x h => good.low x (List.mem_append_right _ h)) fun x h => good.high x (List.mem_append_right _ h)
      refine ⟨_, rfl, p, _, dx, _, _, rfl, hp2, T.Times.cl, T.n_front, lk_front, a, fs, rfl, SqL.of ha2, _, rfl, _, rfl, p, _, dx, _, _, rfl, hp2, T.Times.cl, T.n_period, lk_period, b, ps, rfl, SqL.of hb2, _, _, rfl, rfl, .inr ⟨by omega, by omega⟩, _, _, rfl, rfl, _, rfl, p, _, dx, _, _, rfl, hp2, T.Times.cl, T.n_period, lk_period, _, rfl, _, rfl, b, _, rfl, SqL.of hb2, fun z nz => ?_⟩
      rw [cut_take (by rw [List.length_map]; omega), ← List.map_take]
      have hz : (upd H2 z (.lst ((ps.take l).map V.int))) z = some (.lst ((ps.take l).map V.int)) := upd_same
      exact ⟨z, ps.take l, rfl, SqL.of hz, _, _, rfl, rfl, by show Q (.int (fs.sum + (r : Int) * ps.sum + (ps.take l).sum)) _; rw [← up]; exact k _ (e2.trans (made nz))⟩
abbrev sShows : Stmt := inClass (top 30) 2
theorem scShows : FnScope ["self", "fed", "most"] ["self", "fed", "most"] (defScope sShows) := ⟨rfl, rfl, rfl, by decide +kernel, rfl, by decide +kernel, by decide +kernel⟩
theorem ok_shows {f fA fE fL fS : Addr} {fd fdA fdE fdL fdS : FuncData} (F : Fun K "shows" "Rate.shows" sShows f fd) (T : Txt P w K mg base c) (A_check_asked : At K mg "check_asked" fA) (G_check_asked : FnOk P w K mg base CX0 2 fA fdA ["fed", "most"] (spAsked c)) (b_check_asked : Binds K fdA ["fed", "most"] [])
    (A_is_enough : At K mg "is_enough" fE) (G_is_enough : FnOk P w K mg base CX0 6 fE fdE ["fed", "number", "most"] (spEnough c)) (b_is_enough : Binds K fdE ["fed", "number", "most"] [])
    (A_lag_ahead : At K mg "lag_ahead" fL) (G_lag_ahead : FnOk P w K mg base CX0 4 fL fdL ["fed", "read", "tick"] (spAhead c)) (b_lag_ahead : Binds K fdL ["fed", "read", "tick"] [])
    (A_steady : At K mg "steady" fS) (G_steady : FnOk P w K mg base CX0 5 fS fdS ["number"] (spSteady c)) (b_steady : Binds K fdS ["number"] []) :
    FnOk P w K mg base CX0 7 f fd ["self", "fed", "most"] (spShows c) := by
  refine F.ok scShows (fun vs H Q E h => ?_) (fun cdv A outer s H vs Q E hr h => ?_)
  · obtain ⟨p, dx, pf, n, v, fs, ps, most, rfl, _⟩ := h
    rfl
  · obtain ⟨p, dx, pf, n, v, fs, ps, most, rfl, hp, hv, t, good, m0, m1, k⟩ := h
    have nd := scShows.nd
    have hr_check_asked : Room 2 _ := hr.mono (by decide)
    have hr_is_enough : Room 6 _ := hr
    have hr_lag_ahead : Room 4 _ := hr.mono (by decide)
    have hr_steady : Room 5 _ := hr.mono (by decide)
    refine ⟨_, (pss_cons (ps_expr (pe_call G_check_asked hr_check_asked (by rfl) A_check_asked.g A_check_asked.k b_check_asked .nil pass0 (pa_cons (pv 1) (pa_cons (pv 2) pa_nil))))
      (pss_cons (ps_if (PW.pt (pw_or (pt_cmpR op_lt (pe_fld (pv 0) rfl) pe_int (nomark _)) (pw_or1 (pt_not (pt_val (pe_call G_is_enough hr_is_enough (by rfl) A_is_enough.g A_is_enough.k b_is_enough .nil pass0 (pa_cons (pv 1) (pa_cons (pe_fld (pv 0) rfl) (pa_cons (pv 2) pa_nil)))))))))
        (pss_one (ps_ret pe_bl))
        pss_nil)
      (pss_cons (ps_if (PW.pt (pw_or (pt_cmpR op_eq (pe_fld (pv 0) rfl) pe_int (nomark _)) (pw_or1 (pt_cmpR op_isN (pe_fld (pv 0) rfl) pe_non (nomark _)))))
        (pss_one (ps_ret (pe_and (pe_cmpR op_eq (pe_fld (pv 0) rfl) pe_int (nomark _)) (pe_one (pe_cmpR op_isN (pe_fld (pv 0) rfl) pe_non (nomark _))))))
        pss_nil)
      (pss_one (ps_ret (pe_and (pe_cmpR op_ge (pe_fld (pv 0) rfl) pe_int (nomark _)) (pe_one (pe_cmpR op_gt (pe_call G_lag_ahead hr_lag_ahead (by rfl) A_lag_ahead.g A_lag_ahead.k b_lag_ahead .nil pass0 (pa_cons (pv 1) (pa_cons (pe_call G_steady hr_steady (by rfl) A_steady.g A_steady.k b_steady .nil pass0 (pa_cons (pe_op op_sub (pe_fld (pv 0) rfl) pe_int) pa_nil)) (pa_cons (pe_op op_add (pe_fld (pv 0) rfl) pe_int) pa_nil)))) (pv 2) (nomark _))))))))), ?_⟩
    have lkn : (rF "number" "tick" (.int n) v).lookup ("number" : Str) = some (.int n) := rF_fst (by decide +kernel)
    have lkt : (rF "number" "tick" (.int n) v).lookup ("tick" : Str) = some v := rF_snd
    refine into ⟨_, rfl, _, rfl, pf, fs, ps, most, rfl, t, m0, m1, ?_⟩
    refine into ⟨_, rfl, p, _, dx, _, _, rfl, hp, T.Rate.cl, T.n_rnumber, lkn, _, _, rfl, rfl, _, rfl, ?_⟩
    rcases Decidable.em (n < 0) with n0 | n0
    · rw [decide_eq_true n0]
      exact iteT (iteT (k H false (Same.refl H) ⟨(fun z => nomatch z), fun z => absurd z.1 (by omega)⟩))
    rw [decide_eq_false n0]
    refine iteF ⟨_, rfl, _, rfl, p, _, dx, _, _, rfl, hp, T.Rate.cl, T.n_rnumber, lkn, _, rfl, pf, fs, ps, n, most, rfl, t, good, by omega, fun H1 b e1 yes no => ⟨_, rfl, ?_⟩⟩
    cases b with
    | false => exact iteT (k H1 false e1 ⟨(fun z => nomatch z), fun z => by obtain ⟨u, hu⟩ := no rfl; have := z.2.1 u; omega⟩)
    | true =>
      refine iteF ?_
      try unfold tNext
      dsimp only
      have hp1 := e1 _ _ hp
      have all := yes rfl
      have eqn : ∀ b, (decide (V.int n = V.int 0)) = b ↔ decide (n = 0) = b := fun b => by
        have : (V.int n = V.int 0) ↔ n = 0 := ⟨fun e => by cases e; rfl, fun e => by rw [e]⟩
        simp only [this]
      have one : (decide (V.int n = V.int 0)) = decide (n = 0) := (eqn _).mpr rfl
      refine into ⟨_, rfl, p, _, dx, _, _, rfl, hp1, T.Rate.cl, T.n_rnumber, lkn, rfl, _, rfl, ?_⟩
      rw [one]
      rcases hv with rfl | ⟨u, rfl⟩
      · rcases Decidable.em (n = 0) with z | z
        · rw [decide_eq_true z]
          refine iteT (iteT ⟨_, rfl, p, _, dx, _, _, rfl, hp1, T.Rate.cl, T.n_rnumber, lkn, rfl, _, rfl, ?_⟩)
          rw [one, decide_eq_true z]
          exact iteT ⟨_, rfl, p, _, dx, _, _, rfl, hp1, T.Rate.cl, T.n_rtick, lkt, rfl, k H1 true e1 ⟨fun _ => ⟨by omega, all, .inl ⟨z, rfl⟩⟩, fun _ => rfl⟩⟩
        · rw [decide_eq_false z]
          refine iteF ⟨_, rfl, p, _, dx, _, _, rfl, hp1, T.Rate.cl, T.n_rtick, lkt, rfl, _, rfl, iteT ⟨_, rfl, p, _, dx, _, _, rfl, hp1, T.Rate.cl, T.n_rnumber, lkn, rfl, _, rfl, ?_⟩⟩
          rw [one, decide_eq_false z]
          refine iteF (k H1 false e1 ⟨(fun y => nomatch y), fun y => ?_⟩)
          rcases y.2.2 with ⟨a, _⟩ | ⟨_, t, a, _⟩
          · exact absurd a z
          · cases a
      · rcases Decidable.em (n = 0) with z | z
        · rw [decide_eq_true z]
          refine iteT (iteT ⟨_, rfl, p, _, dx, _, _, rfl, hp1, T.Rate.cl, T.n_rnumber, lkn, rfl, _, rfl, ?_⟩)
          rw [one, decide_eq_true z]
          refine iteT ⟨_, rfl, p, _, dx, _, _, rfl, hp1, T.Rate.cl, T.n_rtick, lkt, rfl, k H1 false e1 ⟨(fun y => nomatch y), fun y => ?_⟩⟩
          rcases y.2.2 with ⟨_, a⟩ | ⟨a, _⟩
          · cases a
          · omega
        · rw [decide_eq_false z]
          refine iteF ⟨_, rfl, p, _, dx, _, _, rfl, hp1, T.Rate.cl, T.n_rtick, lkt, rfl, _, rfl, iteF ?_⟩
          try unfold tNext
          dsimp only
          refine ⟨_, rfl, p, _, dx, _, _, rfl, hp1, T.Rate.cl, T.n_rtick, lkt, _, _, rfl, rfl, _, rfl, ?_⟩
          rw [decide_eq_true (show (u : Int) ≥ 0 by omega)]
          refine iteT ⟨_, rfl, _, rfl, p, _, dx, _, _, rfl, hp1, T.Rate.cl, T.n_rnumber, lkn, _, _, rfl, rfl, n - 1, rfl, by omega, fun H2 r e2 tr => ?_⟩
          have hp2 := e2 _ _ hp1
          have g2 := good_one (cap_0 (n := n - 1) (by omega)).1 (cap_0 (n := n - 1) (by omega)).2
          refine ⟨_, rfl, p, _, dx, _, _, rfl, hp2, T.Rate.cl, T.n_rtick, lkt, _, _, rfl, rfl, pf, r, fs, ps, [], [cap (n - 1)], u + 1, rfl, ⟨(t.same e1).same e2, tr, good, g2⟩, fun H3 e3 => ?_⟩
          rw [show at_ [] [cap (n - 1)] = fun _ => cap (n - 1) from at_one' (cap (n - 1))]
          refine ⟨_, rfl, _, _, rfl, rfl, k H3 _ ((e1.trans e2).trans e3) ⟨fun y => ⟨by omega, all, .inr ⟨by omega, u, rfl, of_decide_eq_true y⟩⟩, fun y => decide_eq_true ?_⟩⟩
          rcases y.2.2 with ⟨a, _⟩ | ⟨_, t', a, h⟩
          · exact absurd a z
          · cases a; exact h
end
end KT
end
section
/-! The law's helpers. -/
namespace KT
open PySem L2
theorem eqv_nil (ns : List Int) : PyData.eqv (.list (ns.map .int)) (.list []) = decide (ns = []) := by
  cases ns <;> rfl
theorem dp_ints {K : PySem.W.Frag} {H : Hp} : ∀ ns : List Int, DpAll K H (ns.map V.int) (ns.map .int)
  | [] => .nil
  | n :: ns => .cons (.int n) (dp_ints ns)
theorem lay_ints : ∀ ns : List Int, PyData.canLayAll0 (ns.map .int) = true
  | [] => rfl
  | n :: ns => by
    show (PyData.canLay0 (.int n) && PyData.canLayAll0 (ns.map .int)) = true
    rw [lay_ints ns]; rfl
theorem deep_ints : ∀ ns : List Int, PyData.depthAll (ns.map .int) = 0
  | [] => rfl
  | n :: ns => by rw [List.map_cons, PyData.depthAll, deep_ints ns]; rfl
theorem shape_ints (ns : List Int) : SeqAt.shaped (.list (ns.map .int)) = true := by
  have e1 : PyData.canLay0 (.list (ns.map .int)) = true := lay_ints ns
  have e2 : PyData.depth (.list (ns.map .int)) = 1 := by show PyData.depthAll _ + 1 = 1; rw [deep_ints]
  unfold SeqAt.shaped
  rw [e1, e2]; rfl
/-- how the law draws -/
def DrawAt (H : Hp) (d a : Addr) : Prop := ∃ k : Int, H d = some (.lst [.ref a, .int k])
theorem DrawAt.same {H H' : Hp} {d a : Addr} (h : DrawAt H d a) (e : Same H H') : DrawAt H' d a := let ⟨k, h⟩ := h; ⟨k, e _ _ h⟩
theorem ints_ne_draw {ns : List Int} {a : Addr} {k : Int} : ¬ (ns.map V.int : List V) = [.ref a, .int k] := by
  cases ns with
  | nil => simp
  | cons n ns => simp
theorem draw_ne {H : Hp} {d a p : Addr} {ns : List Int} (D : DrawAt H d a) (h : H p = some (.lst (ns.map V.int))) : p ≠ d := fun e => by
  obtain ⟨k, hd⟩ := D
  rw [e, hd] at h
  exact ints_ne_draw (HO.lst.inj (Option.some.inj h)).symm
theorem TimesAt.off {C p d a : Addr} {H H' : Hp} {fs ps : List Int} (D : DrawAt H d a) (h : TimesAt C H p fs ps) (o : Off d H H') : TimesAt C H' p fs ps := by
  obtain ⟨dx, x, y, h1, h2, h3⟩ := h
  obtain ⟨k, hd⟩ := id D
  exact ⟨dx, x, y, o _ _ h1 (fun e => by rw [e, hd] at h1; cases h1), o _ _ h2 (draw_ne D h2), o _ _ h3 (draw_ne D h3)⟩
theorem script_off {K : PySem.W.Frag} {H H' : Hp} {d a b : Addr} {ns : List Int} (D : DrawAt H d b) (o : Off d H H') (h : SqL K H a (ns.map V.int)) : SqL K H' a (ns.map V.int) := by
  obtain ⟨k, hd⟩ := id D
  rcases h with (h | ⟨ob, h⟩) | h
  · exact .inl (.inl (o _ _ h (draw_ne D h)))
  · exact .inl (.inr ⟨ob, o _ _ h fun e => by rw [e, hd] at h; cases h⟩)
  · exact .inr h
def optV : Option Int → V
  | none => .non
  | some m => .int m
def spNumber (K : PySem.W.Frag) : Sp := fun vs H Q _ => ∃ (a : Addr) (ns : List Int) (i : Int), vs = [.ref a, .int i] ∧ SqL K H a (ns.map V.int) ∧ ns.length ≤ 63 ∧ ∀ H' v, Same H H' → Q (.int v) H'
def spTake (K : PySem.W.Frag) : Sp := fun vs H Q _ => ∃ (d a : Addr) (ns : List Int) (m : Int), vs = [.ref d, .int m] ∧ DrawAt H d a ∧ SqL K H a (ns.map V.int) ∧ ns.length ≤ 63 ∧ 0 < m ∧ ∀ H' r, Off d H H' → DrawAt H' d a → 0 ≤ r → r < m → Q (.int r) H'
def spRow (K : PySem.W.Frag) : Sp := fun vs H Q _ => ∃ (d a : Addr) (ns : List Int) (n m : Int), vs = [.ref d, .int n, .int m] ∧ DrawAt H d a ∧ SqL K H a (ns.map V.int) ∧ ns.length ≤ 63 ∧ 0 ≤ n ∧ n ≤ 50 ∧ 0 ≤ m ∧
  ∀ (H' : Hp) (l : Addr) (xs : List Int), Off d H H' → DrawAt H' d a → H l = none → H' l = some (.lst (xs.map V.int)) → xs.length = n.toNat → (∀ x ∈ xs, 0 ≤ x) → (∀ x ∈ xs, x ≤ m) → Q (.ref l) H'
def spLAt : Sp := fun vs H Q _ => ∃ (f p : Addr) (fs ps : List Int) (t : Nat), vs = [.ref f, .ref p, .int t] ∧ H f = some (.lst (fs.map V.int)) ∧ H p = some (.lst (ps.map V.int)) ∧ ps ≠ [] ∧ ps.length ≤ 1000 ∧ Q (.int (at_ fs ps t)) H
/-- a pair of rows -/
structure PairAt (H : Hp) (a : Addr) (fs ps : List Int) : Prop where
  ex : ∃ f p, H a = some (.tup [.ref f, .ref p]) ∧ H f = some (.lst (fs.map V.int)) ∧ H p = some (.lst (ps.map V.int))
theorem PairAt.same {H H' : Hp} {a : Addr} {fs ps : List Int} (h : PairAt H a fs ps) (e : Same H H') : PairAt H' a fs ps := let ⟨f, p, h1, h2, h3⟩ := h.ex; ⟨f, p, e _ _ h1, e _ _ h2, e _ _ h3⟩
theorem PairAt.off {H H' : Hp} {a d b : Addr} {fs ps : List Int} (D : DrawAt H d b) (h : PairAt H a fs ps) (o : Off d H H') : PairAt H' a fs ps := by
  obtain ⟨f, p, h1, h2, h3⟩ := h.ex
  obtain ⟨k, hd⟩ := id D
  exact ⟨f, p, o _ _ h1 (fun e => by rw [e, hd] at h1; cases h1), o _ _ h2 (draw_ne D h2), o _ _ h3 (draw_ne D h3)⟩
def spWaits : Sp := fun vs H Q _ => ∃ (a b : Addr) (fs ps gs qs : List Int) (n : Nat), vs = [.ref a, .ref b, .int n] ∧ PairAt H a fs ps ∧ PairAt H b gs qs ∧ ps ≠ [] ∧ ps.length ≤ 1000 ∧ qs ≠ [] ∧ qs.length ≤ 1000 ∧ n ≤ 100000 ∧
  ∀ H' t l1 l2, Same H H' → H' t = some (.tup [.ref l1, .ref l2]) → H' l1 = some (.lst ((waitL (at_ fs ps) (at_ gs qs) n).map V.int)) → H' l2 = some (.lst ((lagsL (at_ fs ps) (at_ gs qs) n).map V.int)) → Q (.ref t) H'
theorem waitL_succ (F R : Nat → Int) (n : Nat) : waitL F R (n + 1) = waitL F R n ++ [pre F R n + F n] := by
  unfold waitL
  rw [List.range_succ, List.map_append]; rfl
section
variable {P : Program} {w : World} {K : PySem.W.Frag} {mg : Str → Option Value} {base : Heap} {c : Cs}
abbrev sNumber : Stmt := top 37
theorem scNumber : FnScope ["script", "index", "cell", "blend"] ["script", "index"] (defScope sNumber) := ⟨rfl, rfl, rfl, by decide +kernel, rfl, by decide +kernel, by decide +kernel⟩
theorem ok_number {f : Addr} {fd : FuncData} (F : Fun K "_law_number" "_law_number" sNumber f fd) (T : Txt P w K mg base c) : FnOk P w K mg base CX0 1 f fd ["script", "index"] (spNumber K) := by
  refine F.ok scNumber (fun vs H Q E h => ?_) (fun cdv A outer s H vs Q E hr h => ?_)
  · obtain ⟨a, ns, i, rfl, _⟩ := h
    rfl
  · obtain ⟨a, ns, i, rfl, hS, few, k⟩ := h
    have nd := scNumber.nd
    have hu := hr.units
    refine ⟨_, (pss_cons (ps_if (pt_cmpR (op_eqD hu) (pv 0) (pe_lst pa_nil) (nomark _))
        (pss_one (ps_ret (pe_callTy call_int1 (by rfl) T.int PyProof.Rows.boot_int (pa_cons (pe_op op_mod (pe_op op_add (pe_op op_mul (pv 1) pe_int) pe_int) pe_int) pa_nil))))
        pss_nil)
      (pss_cons (ps_set (i := 2) nd rfl (Or.inl rfl) (pe_ix ix_list (pv 0) (pe_op op_mod (pv 1) (pe_callB call_len_seq (by rfl) T.len PySem.boot_len (pa_cons (pv 0) pa_nil))) (fun _ _ => rfl)))
      (pss_cons (ps_if (pt_cmpR op_ge (pe_callB call_abs (by rfl) T.abs (by decide +kernel) (pa_cons (pv 2) pa_nil)) (pe_op op_pow pe_int pe_int) (nomark _))
        (pss_one (ps_set (i := 2) nd rfl (Or.inl rfl) (pe_op op_mod (pv 2) (pe_op op_pow pe_int pe_int))))
        pss_nil)
      (pss_cons (ps_set (i := 3) nd rfl (Or.inl rfl) (pe_op op_mod (pe_op op_add (pe_op op_mul (pe_op op_add (pv 2) (pe_op op_mul pe_int (pv 1))) pe_int) (pe_op op_mul pe_int (pe_callB call_len_seq (by rfl) T.len PySem.boot_len (pa_cons (pv 0) pa_nil)))) pe_int))
      (pss_one (ps_ret (pe_callTy call_int1 (by rfl) T.int PyProof.Rows.boot_int (pa_cons (pe_op op_mod (pe_op op_add (pe_op op_mul (pe_op op_mod (pe_op op_mul (pv 3) pe_int) pe_int) pe_int) (pv 1)) pe_int) pa_nil)))))))), ?_⟩
    refine ⟨_, rfl, Nat.zero_le _, fun l nl => ?_⟩
    have e1 : Same H (upd H l (.lst [])) := made nl
    refine ⟨.list (ns.map .int), .list [], .lst (e1.seq hS) (dp_ints ns), .lst (SqL.of upd_same) .nil, shape_ints ns, rfl, _, rfl, ?_⟩
    rw [eqv_nil]
    rcases Decidable.em (ns = []) with ez | ez
    · rw [decide_eq_true ez]
      exact iteT ⟨_, rfl, _, _, rfl, rfl, .inr ⟨by decide, by decide⟩, _, _, rfl, rfl, _, _, rfl, rfl, (show (0 : Int) < 2147483647 by decide), .inl ⟨_, rfl, k _ _ e1⟩⟩
    · rw [decide_eq_false ez]
      refine iteF ?_
      unfold tNext
      dsimp only
      have pos : 0 < ns.length := List.length_pos_iff.mpr ez
      have hS1 := e1.seq hS
      generalize upd H l (.lst []) = H1 at e1 hS1
      have m1 : 0 ≤ i % (ns.length : Int) := Int.emod_nonneg _ (by omega)
      have m2 : i % (ns.length : Int) < (ns.length : Int) := Int.emod_lt_of_pos _ (by omega)
      obtain ⟨x, hx⟩ : ∃ x, ns[(i % (ns.length : Int)).toNat]? = some x := ⟨_, List.getElem?_eq_getElem (show (i % (ns.length : Int)).toNat < ns.length by omega)⟩
      refine into ⟨_, rfl, _, rfl, _, rfl, a, _, rfl, .inl hS1, _, _, rfl, rfl, by rw [List.length_map]; omega, a, _, _, .int x, rfl, rfl, hS1, ?_, ?_⟩
      · rw [List.length_map, show i % (ns.length : Int) = ((i % (ns.length : Int)).toNat : Int) by omega]
        exact atI_nat (by rw [List.getElem?_map, hx]; rfl)
      · have small : ns.length ≤ 63 := few
        refine into ⟨_, rfl, _, rfl, _, _, rfl, rfl, ⟨by decide, by decide, by decide⟩, _, _, rfl, rfl, _, rfl, ?_⟩
        generalize decide ((if x < 0 then -x else x) ≥ (10 : Int) ^ (60 : Int).toNat) = big
        cases big with
        | true =>
          refine iteT ⟨_, rfl, _, _, rfl, rfl, ⟨by decide, by decide, by decide⟩, _, _, rfl, rfl, (show (0 : Int) < 10 ^ (18 : Int).toNat by decide), ?_⟩
          generalize x % 10 ^ (18 : Int).toNat = y
          refine into ⟨_, rfl, _, rfl, _, _, rfl, rfl, .inl ⟨by decide, by decide⟩, _, _, rfl, rfl, _, _, rfl, rfl, .inr ⟨by decide, by decide⟩, _, rfl, a, _, rfl, .inl hS1, _, _, rfl, rfl, .inl ⟨by decide, by decide⟩, _, _, rfl, rfl, _, _, rfl, rfl, (show (0 : Int) < 2147483647 by decide), ?_⟩
          exact ⟨_, rfl, _, _, rfl, rfl, .inr ⟨by decide, by decide⟩, _, _, rfl, rfl, (show (0 : Int) < 2147483629 by decide), _, _, rfl, rfl, .inr ⟨by decide, by decide⟩, _, rfl, _, _, rfl, rfl, _, _, rfl, rfl, (show (0 : Int) < 2147483587 by decide), .inl ⟨_, rfl, k _ _ e1⟩⟩
        | false =>
          refine iteF ?_
          dsimp only
          refine into ⟨_, rfl, _, rfl, _, _, rfl, rfl, .inl ⟨by decide, by decide⟩, _, _, rfl, rfl, _, _, rfl, rfl, .inr ⟨by decide, by decide⟩, _, rfl, a, _, rfl, .inl hS1, _, _, rfl, rfl, .inl ⟨by decide, by decide⟩, _, _, rfl, rfl, _, _, rfl, rfl, (show (0 : Int) < 2147483647 by decide), ?_⟩
          exact ⟨_, rfl, _, _, rfl, rfl, .inr ⟨by decide, by decide⟩, _, _, rfl, rfl, (show (0 : Int) < 2147483629 by decide), _, _, rfl, rfl, .inr ⟨by decide, by decide⟩, _, rfl, _, _, rfl, rfl, _, _, rfl, rfl, (show (0 : Int) < 2147483587 by decide), .inl ⟨_, rfl, k _ _ e1⟩⟩
abbrev sTake : Stmt := top 38
theorem scTake : FnScope ["draw", "many"] ["draw", "many"] (defScope sTake) := ⟨rfl, rfl, rfl, by decide +kernel, rfl, by decide +kernel, by decide +kernel⟩
theorem ok_take {f fN : Addr} {fd fdN : FuncData} (F : Fun K "_law_take" "_law_take" sTake f fd) (T : Txt P w K mg base c) (A_law_number : At K mg "_law_number" fN) (G_law_number : FnOk P w K mg base CX0 1 fN fdN ["script", "index"] (spNumber K)) (b_law_number : Binds K fdN ["script", "index"] []) :
    FnOk P w K mg base CX0 2 f fd ["draw", "many"] (spTake K) := by
  refine F.ok scTake (fun vs H Q E h => ?_) (fun cdv A outer s H vs Q E hr h => ?_)
  · obtain ⟨d, a, ns, m, rfl, _⟩ := h
    rfl
  · obtain ⟨d, a, ns, m, rfl, D, hS, few, m0, k⟩ := h
    have hr_law_number : Room 1 _ := hr
    refine ⟨_, (pss_cons (ps_augS (pv 0) pe_int pget_list pe_int ip_add set_list)
      (pss_one (ps_ret (pe_op op_mod (pe_callTy call_int1 (by rfl) T.int PyProof.Rows.boot_int (pa_cons (pe_call G_law_number hr_law_number (by rfl) A_law_number.g A_law_number.k b_law_number .nil pass0 (pa_cons (pe_ix ix_list (pv 0) pe_int (fun _ _ => rfl)) (pa_cons (pe_callTy call_int1 (by rfl) T.int PyProof.Rows.boot_int (pa_cons (pe_ix ix_list (pv 0) pe_int (fun _ _ => rfl)) pa_nil)) pa_nil))) pa_nil)) (pv 1))))), ?_⟩
    obtain ⟨n, hd⟩ := id D
    refine into ⟨_, rfl, d, _, 1, .int n, rfl, rfl, SqL.of hd, rfl, n, 1, rfl, rfl, d, _, 1, 1, rfl, rfl, hd, rfl, ?_⟩
    have o1 : Off d H (upd H d (.lst (List.set [.ref a, .int n] 1 (.int (n + 1))))) := Off.upd
    have hd1 : (upd H d (.lst (List.set [.ref a, .int n] 1 (.int (n + 1))))) d = some (.lst [.ref a, .int (n + 1)]) := upd_same
    generalize upd H d (.lst (List.set [.ref a, .int n] 1 (.int (n + 1)))) = H1 at o1 hd1
    have hS1 := script_off D o1 hS
    refine ⟨_, rfl, d, _, _, .ref a, rfl, rfl, SqL.of hd1, atI_nat (j := 0) rfl, _, rfl, d, _, _, .int (n + 1), rfl, rfl, SqL.of hd1, atI_nat (j := 1) rfl, .inl ⟨_, rfl, a, ns, _, rfl, hS1, few, fun H2 v e2 => ?_⟩⟩
    refine .inl ⟨_, rfl, _, rfl, _, _, rfl, rfl, m0, ?_⟩
    exact k H2 _ (o1.trans (Off.same e2)) ⟨_, e2 _ _ hd1⟩ (Int.emod_nonneg _ (by omega)) (Int.emod_lt_of_pos _ m0)
/-- a row of drawn numbers, so far -/
def RowAt (H0 H : Hp) (d a D : Addr) (m : Int) (j : Nat) : Prop := ∃ xs : List Int, H D = some (.lst (xs.map V.int)) ∧ xs.length = j ∧ (∀ x ∈ xs, 0 ≤ x) ∧ (∀ x ∈ xs, x ≤ m) ∧ Off d H0 H ∧ DrawAt H d a
theorem RowAt.start {H : Hp} {d a D : Addr} {m : Int} (h : DrawAt H d a) (hD : H D = none) : RowAt H (upd H D (.lst [])) d a D m 0 := ⟨[], upd_same, rfl, by simp, by simp, Off.same (made hD), h.same (made hD)⟩
theorem RowAt.more {H0 H H2 : Hp} {d a D : Addr} {m r : Int} {j : Nat} (R : RowAt H0 H d a D m j) (nD : H0 D = none) (o : Off d H H2) (dr : DrawAt H2 d a) (r0 : 0 ≤ r) (r1 : r ≤ m) (small : j < 100) :
    ∃ acc, H2 D = some (.lst acc) ∧ acc.length < sizeLine ∧ RowAt H0 (upd H2 D (.lst (acc ++ [.int r]))) d a D m (j + 1) := by
  obtain ⟨xs, hD, len, low, high, oo, dd⟩ := R
  have hD2 := o _ _ hD (draw_ne dd hD)
  refine ⟨_, hD2, by rw [List.length_map, len, sizeLine_eq]; omega, xs ++ [r], ?_, by rw [List.length_append, len]; rfl, fun x hx => ?_, fun x hx => ?_, fun b u z n => ?_, ?_⟩
  · rw [upd_same, List.map_append]; rfl
  · rcases List.mem_append.mp hx with h | h
    · exact low x h
    · rw [List.mem_singleton.mp h]; exact r0
  · rcases List.mem_append.mp hx with h | h
    · exact high x h
    · rw [List.mem_singleton.mp h]; exact r1
  · rw [upd_ne (ne_of_none z nD)]; exact o _ _ (oo _ _ z n) n
  · obtain ⟨k, hk⟩ := dr
    exact ⟨k, by rw [upd_ne (Ne.symm (draw_ne ⟨k, hk⟩ hD2))]; exact hk⟩
abbrev sRow : Stmt := top 40
abbrev nRow : List Str := ["draw", "many", "most", "turn"]
theorem scRow : FnScope nRow ["draw", "many", "most"] (defScope sRow) := ⟨rfl, rfl, rfl, by decide +kernel, rfl, by decide +kernel, by decide +kernel⟩
theorem ok_row {f fT : Addr} {fd fdT : FuncData} (F : Fun K "_law_row" "_law_row" sRow f fd) (T : Txt P w K mg base c) (A_law_take : At K mg "_law_take" fT) (G_law_take : FnOk P w K mg base CX0 2 fT fdT ["draw", "many"] (spTake K)) (b_law_take : Binds K fdT ["draw", "many"] []) :
    FnOk P w K mg base CX0 3 f fd ["draw", "many", "most"] (spRow K) := by
  refine F.ok scRow (fun vs H Q E h => ?_) (fun cdv A outer s H vs Q E hr h => ?_)
  · obtain ⟨d, a, ns, n, m, rfl, _⟩ := h
    rfl
  · obtain ⟨d, a, ns, n, m, rfl, D, hS, few, n0, n1, m0, k⟩ := h
    have nd := scRow.nd
    have hr_law_take : Room 2 _ := hr
    refine ⟨_, (pss_one (ps_ret (pe_lc (own := [("turn", 3)]) (by rfl) nd (pi_range1 (by rfl) T.range (pa_cons (pv 1) pa_nil)) (blkOk_by (N := nRow) (sc := defScope sRow) (by decide +kernel)) (fun _ _ _ _ _ => (pg_name (i := 3) nd rfl (Or.inl rfl))) (fun _ _ _ _ _ => pts_nil) (fun _ _ _ _ _ => (pe_call G_law_take hr_law_take (by rfl) A_law_take.g A_law_take.k b_law_take .nil pass0 (pa_cons (pv 0) (pa_cons (pe_op op_add (pv 2) pe_int) pa_nil))))))), ?_⟩
    refine ⟨_, rfl, _, rfl, by omega, by omega, fun L nL => lc_range (lo := 0) (n := n.toNat) (fun j H' => RowAt H H' d a L m j) (RowAt.start D nL) ?_ ?_⟩
    · rintro j H' hj R
      obtain ⟨xs, hL, len, low, high, oo, dd⟩ := id R
      refine ⟨rfl, _, rfl, _, rfl, _, _, rfl, rfl, d, a, ns, m + 1, rfl, dd, script_off D oo hS, few, by omega, fun H2 x o2 D2 x0 x1 => ?_⟩
      exact R.more nL o2 D2 x0 (by omega) (by omega)
    · rintro H2 ⟨fs, hL, lenF, lowF, highF, o2, D2⟩
      exact k H2 L fs o2 D2 nL hL lenF lowF highF
abbrev sLAt : Stmt := top 41
theorem scLAt : FnScope ["front", "period", "tick"] ["front", "period", "tick"] (defScope sLAt) := ⟨rfl, rfl, rfl, by decide +kernel, rfl, by decide +kernel, by decide +kernel⟩
theorem ok_lat {f : Addr} {fd : FuncData} (F : Fun K "_law_at" "_law_at" sLAt f fd) (T : Txt P w K mg base c) : FnOk P w K mg base CX0 1 f fd ["front", "period", "tick"] spLAt := by
  refine F.ok scLAt (fun vs H Q E h => ?_) (fun cdv A outer s H vs Q E hr h => ?_)
  · obtain ⟨a, b, fs, ps, t, rfl, _⟩ := h
    rfl
  · obtain ⟨a, b, fs, ps, t, rfl, ha, hb, ne, small, k⟩ := h
    have nd := scLAt.nd
    have pos := List.length_pos_iff.mpr ne
    refine ⟨_, (pss_one (ps_ret (pe_ifExp (pt_cmpR op_lt (pv 2) (pe_callB call_len_seq (by rfl) T.len PySem.boot_len (pa_cons (pv 0) pa_nil)) (nomark _)) (pe_ix ix_list (pv 0) (pv 2) (fun _ _ => rfl)) (pe_ix ix_list (pv 1) (pe_op op_mod (pe_callTy call_int1 (by rfl) T.int PyProof.Rows.boot_int (pa_cons (pe_op op_sub (pv 2) (pe_callB call_len_seq (by rfl) T.len PySem.boot_len (pa_cons (pv 0) pa_nil))) pa_nil)) (pe_callB call_len_seq (by rfl) T.len PySem.boot_len (pa_cons (pv 1) pa_nil))) (fun _ _ => rfl))))), ?_⟩
    refine ⟨_, rfl, _, rfl, a, _, rfl, .inl (SqL.of ha), _, _, rfl, rfl, _, rfl, ?_⟩
    rw [List.length_map]
    rcases Nat.lt_or_ge t fs.length with lt | ge
    · rw [decide_eq_true (show (t : Int) < fs.length by omega)]
      refine iteT ⟨_, rfl, _, rfl, a, _, _, .int (at_ fs ps t), rfl, rfl, SqL.of ha, atI_nat ?_, k⟩
      unfold at_
      rw [if_pos lt, List.getElem?_map, List.getD_eq_getElem?_getD, List.getElem?_eq_getElem lt]; rfl
    · rw [decide_eq_false (show ¬ (t : Int) < fs.length by omega)]
      have lt := Nat.mod_lt (t - fs.length) pos
      refine iteF ⟨_, rfl, _, rfl, _, rfl, a, _, rfl, .inl (SqL.of ha), _, _, rfl, rfl, .inl ⟨_, rfl, _, rfl, b, _, rfl, .inl (SqL.of hb), _, _, rfl, rfl, ?_, b, _, _, .int (at_ fs ps t), rfl, rfl, SqL.of hb, ?_, k⟩⟩
      · show (0 : Int) < ((ps.map V.int).length : Int)
        rw [List.length_map]; omega
      · rw [List.length_map, List.length_map, show (t : Int) - (fs.length : Int) = ((t - fs.length : Nat) : Int) by omega, ← Int.natCast_emod]
        refine atI_nat ?_
        unfold at_
        rw [if_neg (by omega), List.getElem?_map, List.getD_eq_getElem?_getD, List.getElem?_eq_getElem lt]; rfl
abbrev sWaits : Stmt := top 42
abbrev nWaits : List Str := ["fed", "read", "many", "ahead", "behind", "now", "tick"]
theorem scWaits : FnScope nWaits ["fed", "read", "many"] (defScope sWaits) := ⟨rfl, rfl, rfl, by decide +kernel, rfl, by decide +kernel, by decide +kernel⟩
theorem ok_waits {f fL : Addr} {fd fdL : FuncData} (F : Fun K "_law_waits" "_law_waits" sWaits f fd) (T : Txt P w K mg base c) (A_law_at : At K mg "_law_at" fL) (G_law_at : FnOk P w K mg base CX0 1 fL fdL ["front", "period", "tick"] spLAt) (b_law_at : Binds K fdL ["front", "period", "tick"] []) :
    FnOk P w K mg base CX0 2 f fd ["fed", "read", "many"] spWaits := by
  refine F.ok scWaits (fun vs H Q E h => ?_) (fun cdv A outer s H vs Q E hr h => ?_)
  · obtain ⟨a, b, fs, ps, gs, qs, n, rfl, _⟩ := h
    rfl
  · obtain ⟨a, b, fs, ps, gs, qs, n, rfl, hA, hB, ne, sm, ne2, sm2, few, k⟩ := h
    have nd := scWaits.nd
    have hr_law_at : Room 1 _ := hr
    refine ⟨_, (pss_cons (ps_par3 (i := 3) (j := 4) (l := 5) (by rfl) nd rfl rfl rfl (by decide) (by decide) (by decide) rfl rfl rfl (pa_cons (pe_lst pa_nil) (pa_cons (pe_lst pa_nil) (pa_cons pe_int pa_nil))) (by rfl))
      (pss_cons (ps_for PassesOwn.never rfl (pi_range1 (by rfl) T.range (pa_cons (pv 2) pa_nil)) (pg_name (i := 6) nd rfl (Or.inl rfl))
        (pss_cons (ps_aug (i := 5) nd rfl (Or.inl rfl) (pe_call G_law_at hr_law_at (by rfl) A_law_at.g A_law_at.k b_law_at .nil pass0 (pa_cons (pe_ix ix_tup (pv 0) pe_int (fun _ _ => rfl)) (pa_cons (pe_ix ix_tup (pv 0) pe_int (fun _ _ => rfl)) (pa_cons (pv 6) pa_nil)))) ip_add)
        (pss_cons (ps_expr (pe_bm PySem.F.plainAttrs_list PySem.F.slot_list_append PySem.F.type_list_append mt_append (pv 3) (pa_cons (pv 5) pa_nil)))
        (pss_cons (ps_set (i := 5) nd rfl (Or.inl rfl) (pe_callB (call_max2 rfl) (by rfl) T.max (by decide +kernel) (pa_cons pe_int (pa_cons (pe_op op_sub (pv 5) (pe_call G_law_at hr_law_at (by rfl) A_law_at.g A_law_at.k b_law_at .nil pass0 (pa_cons (pe_ix ix_tup (pv 1) pe_int (fun _ _ => rfl)) (pa_cons (pe_ix ix_tup (pv 1) pe_int (fun _ _ => rfl)) (pa_cons (pv 6) pa_nil))))) pa_nil))))
        (pss_one (ps_expr (pe_bm PySem.F.plainAttrs_list PySem.F.slot_list_append PySem.F.type_list_append mt_append (pv 4) (pa_cons (pv 5) pa_nil))))))))
      (pss_one (ps_ret (pe_tup (pa_cons (pv 3) (pa_cons (pv 4) pa_nil))))))), ?_⟩
    refine into ⟨Nat.zero_le _, fun l1 n1 => ⟨Nat.zero_le _, fun l2 n2 => ⟨_, _, _, rfl, ?_⟩⟩⟩
    have ne12 : l1 ≠ l2 := ne_of_none upd_same n2
    have nl2 : H l2 = none := Same.free (made n1) n2
    have e1 : Same H (upd (upd H l1 (.lst [])) l2 (.lst [])) := (made n1).trans (made n2)
    have h1 : (upd (upd H l1 (.lst [])) l2 (.lst [])) l1 = some (.lst []) := by rw [upd_ne ne12, upd_same]
    have h2 : (upd (upd H l1 (.lst [])) l2 (.lst [])) l2 = some (.lst []) := upd_same
    generalize upd (upd H l1 (.lst [])) l2 (.lst []) = H1 at e1 h1 h2
    refine into ⟨_, rfl, _, rfl, by omega, by omega, ?_⟩
    rw [show ((n : Int)).toNat = n by omega]
    refine for_range (lo := 0) (n := n) (fun j σ H' => ∃ v : Option V, σ = [some (.ref a), some (.ref b), some (.int n), some (.ref l1), some (.ref l2), some (.int (pre (at_ fs ps) (at_ gs qs) j)), v] ∧ Same H H' ∧ H' l1 = some (.lst ((waitL (at_ fs ps) (at_ gs qs) j).map V.int)) ∧ H' l2 = some (.lst ((lagsL (at_ fs ps) (at_ gs qs) j).map V.int))) ⟨none, rfl, e1, h1, h2⟩ ?_ ?_
    · rintro j σ H' hj ⟨v, rfl, e, w1, w2⟩
      obtain ⟨fa, pa, ta, ta1, ta2⟩ := (hA.same e).ex
      obtain ⟨fb, pb, tb, tb1, tb2⟩ := (hB.same e).ex
      refine into ⟨_, rfl, _, rfl, a, _, _, .ref fa, rfl, rfl, SqT.of ta, atI_nat (j := 0) rfl, _, rfl, a, _, _, .ref pa, rfl, rfl, SqT.of ta, atI_nat (j := 1) rfl, _, rfl, fa, pa, fs, ps, j, by rw [Int.zero_add]; rfl, ta1, ta2, ne, sm, ?_⟩
      refine ⟨_, _, rfl, rfl, ?_⟩
      refine into ⟨_, rfl, .inl ⟨rfl, _, SqL.of w1⟩, _, rfl, l1, _, _, rfl, rfl, w1, by rw [List.length_map, waitL_len, sizeLine_eq]; omega, ?_⟩
      have nl1 : H l1 = none := n1
      have e' : Same H (upd H' l1 (.lst ((waitL (at_ fs ps) (at_ gs qs) j).map V.int ++ [.int (pre (at_ fs ps) (at_ gs qs) j + at_ fs ps j)]))) := put_in e nl1
      have w1' : (upd H' l1 (.lst ((waitL (at_ fs ps) (at_ gs qs) j).map V.int ++ [.int (pre (at_ fs ps) (at_ gs qs) j + at_ fs ps j)]))) l1 = some (.lst ((waitL (at_ fs ps) (at_ gs qs) (j + 1)).map V.int)) := by rw [upd_same, waitL_succ, List.map_append]; rfl
      have w2' : (upd H' l1 (.lst ((waitL (at_ fs ps) (at_ gs qs) j).map V.int ++ [.int (pre (at_ fs ps) (at_ gs qs) j + at_ fs ps j)]))) l2 = some (.lst ((lagsL (at_ fs ps) (at_ gs qs) j).map V.int)) := by rw [upd_ne (Ne.symm ne12)]; exact w2
      generalize upd H' l1 (.lst ((waitL (at_ fs ps) (at_ gs qs) j).map V.int ++ [.int (pre (at_ fs ps) (at_ gs qs) j + at_ fs ps j)])) = H2 at e' w1' w2'
      obtain ⟨fb, pb, tb, tb1, tb2⟩ := (hB.same e').ex
      refine into ⟨_, rfl, _, rfl, b, _, _, .ref fb, rfl, rfl, SqT.of tb, atI_nat (j := 0) rfl, _, rfl, b, _, _, .ref pb, rfl, rfl, SqT.of tb, atI_nat (j := 1) rfl, _, rfl, fb, pb, gs, qs, j, by rw [Int.zero_add]; rfl, tb1, tb2, ne2, sm2, _, _, rfl, rfl, _, _, rfl, ?_⟩
      have step : (if pre (at_ fs ps) (at_ gs qs) j + at_ fs ps j - at_ gs qs j > 0 then pre (at_ fs ps) (at_ gs qs) j + at_ fs ps j - at_ gs qs j else 0) = pre (at_ fs ps) (at_ gs qs) (j + 1) := by
        show _ = max 0 (pre (at_ fs ps) (at_ gs qs) j + at_ fs ps j - at_ gs qs j)
        split <;> omega
      refine ⟨_, rfl, .inl ⟨rfl, _, SqL.of w2'⟩, _, rfl, l2, _, _, rfl, rfl, w2', by rw [List.length_map, lagsL_len, sizeLine_eq]; omega, some (.int (0 + (j : Int))), ?_, put_in e' nl2, ?_, ?_⟩
      · rw [step]; rfl
      · rw [upd_ne ne12]; exact w1'
      · rw [upd_same, step, lagsL_succ, List.map_append]; rfl
    · rintro σ H' ⟨v, rfl, e, w1, w2⟩
      exact ⟨_, rfl, _, rfl, by show 2 ≤ sizeLine; decide, fun t nt => k _ t l1 l2 (e.trans (made nt)) upd_same (made nt _ _ w1) (made nt _ _ w2)⟩
end
end KT
end
section
/-! The law's question whether a rate is right. -/
namespace KT
open PySem L2
theorem beyond_small {fs ps : List Int} {k most : Int} {t : Nat} (g : Good fs ps) (k0 : 0 ≤ k) (k1 : k ≤ 100) (m0 : 0 ≤ most) (m1 : most ≤ 1000) (b : Beyond (at_ fs ps) k most t) : t ≤ 30000 := by
  have g2 := good_one k0 k1
  have W := two_of g g2
  rw [at_one' k] at W
  have hc : frontN fs [] ≤ 24 := by have := g.few; unfold frontN; simp; omega
  have hT : perN ps [k] ≤ 24 := by have := g.few'; unfold perN; rw [show [k].length = 1 from rfl, Nat.lcm_one_right]; omega
  generalize frontN fs [] = c at W hc
  generalize perN ps [k] = T at W hT
  have T0 := W.pos
  refine Decidable.byContradiction fun far => ?_
  rcases Int.lt_or_le 0 (sumW (fun i => at_ fs ps i - k) c T) with gr | gr
  · have pd : ∀ u, c ≤ u → (fun i => at_ fs ps i - k) (u + T) = (fun i => at_ fs ps i - k) u := fun u h => by show at_ fs ps (u + T) - k = at_ fs ps u - k; rw [W.pF u h]
    have s := sum_times (fun i => at_ fs ps i - k) pd 0 (most.toNat + 1)
    have r := run_ge (fun i => at_ fs ps i - k) (pre (at_ fs ps) (fun _ => k) c) (c + 0) (T * (most.toNat + 1))
    rw [s] at r
    simp only [Nat.add_zero] at r
    have e : run (fun i => at_ fs ps i - k) (pre (at_ fs ps) (fun _ => k) c) c (T * (most.toNat + 1)) = pre (at_ fs ps) (fun _ => k) (c + T * (most.toNat + 1)) := (pre_run (at_ fs ps) (fun _ => k) c (T * (most.toNat + 1))).symm
    rw [e] at r
    have nn := pre_nn (at_ fs ps) (fun _ => k) c
    have q : ((most.toNat + 1 : Nat) : Int) ≤ ((most.toNat + 1 : Nat) : Int) * sumW (fun i => at_ fs ps i - k) c T := by
      have := Int.mul_le_mul_of_nonneg_left (show (1 : Int) ≤ sumW (fun i => at_ fs ps i - k) c T by omega) (show (0 : Int) ≤ ((most.toNat + 1 : Nat) : Int) by omega)
      rwa [Int.mul_one] at this
    have up : T * (most.toNat + 1) ≤ 24 * 1001 := Nat.mul_le_mul hT (by omega)
    have lo : 0 < T * (most.toNat + 1) := Nat.mul_pos T0 (by omega)
    have ea := b.early (c + T * (most.toNat + 1) - 1) (by omega)
    rw [show c + T * (most.toNat + 1) - 1 + 1 = c + T * (most.toNat + 1) by omega] at ea
    omega
  · have all := greatest W gr (m := most) fun y hy => by
      obtain ⟨i, hi, rfl⟩ := List.mem_map.mp hy
      have := List.mem_range.mp hi
      exact b.early i (by omega)
    have := all t
    have := b.is
    omega
theorem cut_init {xs : List V} {x : V} : cutV (xs ++ [x]) none (some (-1)) = xs := by
  unfold cutV
  have e1 : HT.sIx (xs ++ [x]).length 0 none = 0 := rfl
  have e2 : HT.sIx (xs ++ [x]).length (xs ++ [x]).length (some (-1)) = xs.length := by
    unfold HT.sIx
    simp only [List.length_append, List.length_cons, List.length_nil]
    split <;> omega
  rw [e1, e2, List.drop_zero, Nat.sub_zero, List.take_left']; rfl
def spRight (K : PySem.W.Frag) (c : Cs) : Sp := fun vs H Q _ => ∃ (d a b p : Addr) (ns fs ps : List Int) (many : Nat), vs = [.ref d, .ref b, .ref p, .int many] ∧ DrawAt H d a ∧ SqL K H a (ns.map V.int) ∧ ns.length ≤ 63 ∧ PairAt H b fs ps ∧ TimesAt c.times H p fs ps ∧ Good fs ps ∧ 0 < many ∧ many ≤ 1000 ∧
  ∀ H', Off d H H' → DrawAt H' d a → Q (.bl true) H'
section
variable {P : Program} {w : World} {K : PySem.W.Frag} {mg : Str → Option Value} {base : Heap} {c : Cs}
abbrev sRight : Stmt := top 44
abbrev nRight : List Str := ["draw", "fed", "told", "many", "most", "found", "late"]
theorem scRight : FnScope nRight ["draw", "fed", "told", "many"] (defScope sRight) := ⟨rfl, rfl, rfl, by decide +kernel, rfl, by decide +kernel, by decide +kernel⟩
set_option maxHeartbeats 1000000 in
theorem ok_right {f fT fR fS fI fW : Addr} {fd fdT fdR fdS fdI fdW : FuncData} (F : Fun K "_law_rate_right" "_law_rate_right" sRight f fd) (T : Txt P w K mg base c) (A_law_take : At K mg "_law_take" fT) (G_law_take : FnOk P w K mg base CX0 2 fT fdT ["draw", "many"] (spTake K)) (b_law_take : Binds K fdT ["draw", "many"] [])
    (A_least_rate : At K mg "least_rate" fR) (G_least_rate : FnOk P w K mg base CX0 7 fR fdR ["fed", "most"] (spRate c)) (b_least_rate : Binds K fdR ["fed", "most"] [])
    (M_shows : Meth K c.rate "shows" fS) (G_shows : FnOk P w K mg base CX0 7 fS fdS ["self", "fed", "most"] (spShows c)) (b_shows : Binds K fdS ["self", "fed", "most"] [])
    (M_Rate : Mk K c.rate fI) (G_Rate : FnOk P w K mg base CX0 1 fI fdI ["self", "number", "tick"] (spR2 c.rate "number" "tick")) (b_Rate : Binds K fdI ["self", "number", "tick"] [])
    (A_law_waits : At K mg "_law_waits" fW) (G_law_waits : FnOk P w K mg base CX0 2 fW fdW ["fed", "read", "many"] spWaits) (b_law_waits : Binds K fdW ["fed", "read", "many"] []) :
    FnOk P w K mg base CX0 8 f fd ["draw", "fed", "told", "many"] (spRight K c) := by
  refine F.ok scRight (fun vs H Q E h => ?_) (fun cdv A outer s H vs Q E hr h => ?_)
  · obtain ⟨d, a, b, p, ns, fs, ps, many, rfl, _⟩ := h
    rfl
  · obtain ⟨d, a, b, p, ns, fs, ps, many, rfl, D, hS, few, pr, t, good, n0, n1, k⟩ := h
    have nd := scRight.nd
    have hr_law_take : Room 2 _ := hr.mono (by decide)
    have hr_least_rate : Room 7 _ := hr
    have hr_shows : Room 7 _ := hr
    have hr_Rate : Room 2 _ := hr.mono (by decide)
    have hr_law_waits : Room 2 _ := hr.mono (by decide)
    refine ⟨_, (pss_cons (ps_set (i := 4) nd rfl (Or.inl rfl) (pe_call G_law_take hr_law_take (by rfl) A_law_take.g A_law_take.k b_law_take .nil pass0 (pa_cons (pv 0) (pa_cons pe_int pa_nil))))
      (pss_cons (ps_set (i := 5) nd rfl (Or.inl rfl) (pe_call G_least_rate hr_least_rate (by rfl) A_least_rate.g A_least_rate.k b_least_rate .nil pass0 (pa_cons (pv 2) (pa_cons (pv 4) pa_nil))))
      (pss_cons (ps_if (PW.pt (pw_or (pt_not (pt_val (pe_meth (pv 5) T.Rate.cl M_shows G_shows hr_shows b_shows .nil pass0 (pa_cons (pv 2) (pa_cons (pv 4) pa_nil))))) (pw_or1 (pt_cmpR op_gt (pe_callB (cr_max rfl) (by rfl) T.max (by decide +kernel) (pa_cons (pe_ix ix_tup (pe_call G_law_waits hr_law_waits (by rfl) A_law_waits.g A_law_waits.k b_law_waits .nil pass0 (pa_cons (pv 1) (pa_cons (pe_tup (pa_cons (pe_lst pa_nil) (pa_cons (pe_lst (pa_cons (pe_fld (pv 5) rfl) pa_nil)) pa_nil))) (pa_cons (pv 3) pa_nil)))) pe_int (fun _ _ => rfl)) pa_nil)) (pv 4) (nomark _)))))
        (pss_one (ps_ret pe_bl))
        pss_nil)
      (pss_cons (ps_if (pt_cmpR op_eq (pe_fld (pv 5) rfl) pe_int (nomark _))
        (pss_one (ps_ret (pe_and (pe_cmpR op_isN (pe_fld (pv 5) rfl) pe_non (nomark _)) (pe_one (pe_not (pe_meth (pe_make M_Rate G_Rate hr_Rate (by rfl) T.Rate.g b_Rate .nil pass0 (pa_cons pe_int (pa_cons pe_non pa_nil))) T.Rate.cl M_shows G_shows hr_shows b_shows .nil pass0 (pa_cons (pv 2) (pa_cons (pv 4) pa_nil))))))))
        pss_nil)
      (pss_cons (ps_set (i := 6) nd rfl (Or.inl rfl) (pe_ix ix_tup (pe_call G_law_waits hr_law_waits (by rfl) A_law_waits.g A_law_waits.k b_law_waits .nil pass0 (pa_cons (pv 1) (pa_cons (pe_tup (pa_cons (pe_lst pa_nil) (pa_cons (pe_lst (pa_cons (pe_op op_sub (pe_fld (pv 5) rfl) pe_int) pa_nil)) pa_nil))) (pa_cons (pe_op op_add (pe_fld (pv 5) rfl) pe_int) pa_nil)))) pe_int (fun _ _ => rfl)))
      (pss_cons (ps_if (PW.pt (pw_or (pt_cmpR op_le (pe_ix ix_list (pv 6) (pe_un un_neg pe_int) (fun _ _ => rfl)) (pv 4) (nomark _)) (pw_or1 (pt_cmpR op_gt (pe_callB (cr_max rfl) (by rfl) T.max (by decide +kernel) (pa_cons (pe_op op_cat (pe_slice sl_list (pv 6) po_none (po_some (pe_un un_neg pe_int))) (pe_lst (pa_cons pe_int pa_nil))) pa_nil)) (pv 4) (nomark _)))))
        (pss_one (ps_ret pe_bl))
        pss_nil)
      (pss_cons (ps_if (PW.pt (pw_or (pt_val (pe_meth (pe_make M_Rate G_Rate hr_Rate (by rfl) T.Rate.g b_Rate .nil pass0 (pa_cons (pe_op op_add (pe_fld (pv 5) rfl) pe_int) (pa_cons (pe_fld (pv 5) rfl) pa_nil))) T.Rate.cl M_shows G_shows hr_shows b_shows .nil pass0 (pa_cons (pv 2) (pa_cons (pv 4) pa_nil)))) (pw_or (pt_val (pe_meth (pe_make M_Rate G_Rate hr_Rate (by rfl) T.Rate.g b_Rate .nil pass0 (pa_cons pe_int (pa_cons pe_int pa_nil))) T.Rate.cl M_shows G_shows hr_shows b_shows .nil pass0 (pa_cons (pv 2) (pa_cons (pv 4) pa_nil)))) (pw_or1 (pt_val (pe_meth (pe_make M_Rate G_Rate hr_Rate (by rfl) T.Rate.g b_Rate .nil pass0 (pa_cons (pe_un un_neg pe_int) (pa_cons pe_int pa_nil))) T.Rate.cl M_shows G_shows hr_shows b_shows .nil pass0 (pa_cons (pv 2) (pa_cons (pv 4) pa_nil))))))))
        (pss_one (ps_ret pe_bl))
        pss_nil)
      (pss_one (ps_ret (pe_and (pe_not (pe_meth (pe_make M_Rate G_Rate hr_Rate (by rfl) T.Rate.g b_Rate .nil pass0 (pa_cons (pe_op op_sub (pe_fld (pv 5) rfl) pe_int) (pa_cons pe_non pa_nil))) T.Rate.cl M_shows G_shows hr_shows b_shows .nil pass0 (pa_cons (pv 2) (pa_cons (pv 4) pa_nil)))) (pe_one (pe_not (pe_meth (pe_make M_Rate G_Rate hr_Rate (by rfl) T.Rate.g b_Rate .nil pass0 (pa_cons (pe_fld (pv 5) rfl) (pa_cons (pe_ifExp (pt_cmpR op_eq (pe_fld (pv 5) rfl) pe_int (nomark _)) pe_non (pe_op op_sub (pe_fld (pv 5) rfl) pe_int)) pa_nil))) T.Rate.cl M_shows G_shows hr_shows b_shows .nil pass0 (pa_cons (pv 2) (pa_cons (pv 4) pa_nil))))))))))))))), ?_⟩
    refine into ⟨_, rfl, d, a, ns, 12, rfl, D, hS, few, by decide, fun H1 most o1 D1 m0 m1 => ?_⟩
    have pr1 := pr.off D o1
    have t1 := t.off D o1
    refine into ⟨_, rfl, _, rfl, p, fs, ps, most, rfl, t1, good, m0, by omega, fun H2 r dx n v e2 hr2 is => ?_⟩
    have D2 := D1.same e2
    have pr2 := pr1.same e2
    have t2 := t1.same e2
    obtain ⟨rate, n100, z0, z1⟩ := is
    have nn := rate.nn
    have hv : v = .non ∨ ∃ t : Nat, v = .int t := by
      rcases Int.lt_or_le 0 n with h | h
      · obtain ⟨t, e, _⟩ := z1 h
        exact .inr ⟨t, e⟩
      · exact .inl (z0 (by omega))
    have lkn : (rF "number" "tick" (.int n) v).lookup ("number" : Str) = some (.int n) := rF_fst (by decide +kernel)
    have lkt : (rF "number" "tick" (.int n) v).lookup ("tick" : Str) = some v := rF_snd
    have good1 : ShowsIs (at_ fs ps) most n v := by
      refine ⟨nn, fun u => by rw [cap_le n100]; exact rate.enough u, ?_⟩
      rcases Int.lt_or_le 0 n with h | h
      · obtain ⟨u, e, bey⟩ := z1 h
        exact .inr ⟨h, u, e, by rw [cap_le (show n - 1 ≤ 100 by omega)]; exact bey.is⟩
      · exact .inl ⟨by omega, z0 (by omega)⟩
    have lks : ∀ (n : Int) (v : V), (rF "number" "tick" (.int n) v).lookup ("shows" : Str) = none := fun n v => by
      unfold rF
      rw [lookup_putF, if_neg (by decide +kernel), lookup_putF, if_neg (by decide +kernel)]; rfl
    refine into ⟨_, rfl, r, dx, _, rfl, hr2, lks _ _, _, rfl, _, rfl, r, dx, p, n, v, fs, ps, most, rfl, hr2, hv, t2, good, m0, by omega, fun H3 b3 e3 iff3 => ?_⟩
    obtain rfl : b3 = true := iff3.mpr good1
    have hr3 := e3 _ _ hr2
    have pr3 := pr2.same e3
    have t3 := t2.same e3
    have D3 := D2.same e3
    refine ⟨_, rfl, iteF ⟨_, rfl, Nat.zero_le _, fun l0 nl0 => ⟨_, rfl, r, _, dx, _, _, rfl, made nl0 _ _ hr3, T.Rate.cl, T.n_rnumber, lkn, by show 1 ≤ sizeLine; decide, fun l1 nl1 => ⟨by show 2 ≤ sizeLine; decide, fun tp ntp => ?_⟩⟩⟩⟩
    have e4 := ((made (o := HO.lst []) nl0).trans (made (o := HO.lst [.int n]) nl1)).trans (made (o := HO.tup [.ref l0, .ref l1]) ntp)
    have pn : PairAt (upd (upd (upd H3 l0 (.lst [])) l1 (.lst [.int n])) tp (.tup [.ref l0, .ref l1])) tp [] [n] := ⟨l0, l1, upd_same, made ntp _ _ (made nl1 _ _ upd_same), made ntp _ _ upd_same⟩
    generalize upd (upd (upd H3 l0 (.lst [])) l1 (.lst [.int n])) tp (.tup [.ref l0, .ref l1]) = H4 at e4 pn
    refine ⟨_, rfl, b, tp, fs, ps, [], [n], many, rfl, pr3.same e4, pn, good.ne, by have := good.few'; omega, by simp, by simp, by omega, fun H5 t5 w1 w2 e5 ht5 h1 h2 => ?_⟩
    rw [at_one'] at h2
    refine ⟨t5, _, _, .ref w2, rfl, rfl, SqT.of ht5, atI_nat (j := 1) rfl, w2, _, rfl, SqL.of h2, by rw [lagsL_len]; exact n0, fun mx mem all => ⟨_, rfl, _, _, rfl, rfl, _, rfl, ?_⟩⟩
    have mle : mx ≤ most := by
      obtain ⟨u, _, rfl⟩ := List.mem_map.mp mem
      exact rate.enough u
    rw [decide_eq_false (show ¬ mx > most by omega)]
    refine iteF ?_
    try unfold tNext
    dsimp only
    have e6 := e4.trans e5
    have hr5 := e6 _ _ hr3
    have pr5 := pr3.same e6
    have t5' := t3.same e6
    have D5 := D3.same e6
    have o5 : Off d H H5 := ((o1.trans (.same e2)).trans (.same e3)).trans (.same e6)
    have one : decide (V.int n = V.int 0) = decide (n = 0) := by
      have : (V.int n = V.int 0) ↔ n = 0 := ⟨fun e => by cases e; rfl, fun e => by rw [e]⟩
      simp only [this]
    -- what the rates that are made show
    have made_shows : ∀ (σ : L2.St) (H6 : Hp) (n' : Int) (v' : V) (R : VK), σ[2]? = some (some (.ref p)) → σ[4]? = some (some (.int most)) → Same H5 H6 → (v' = .non ∨ ∃ t : Nat, v' = .int t) → ¬ ShowsIs (at_ fs ps) most n' v' → (∀ H7, Same H6 H7 → R (.bl false) H7) →
        ∀ x dx, H6 x = none → H6 dx = none → dx ≠ x → spR2 c.rate "number" "tick" [.ref x, .int n', v'] (upd (upd H6 dx (.own x)) x (.ins c.rate dx [])) (fun u H7 => u = .non ∧ ∃ a dx fs, V.ref x = .ref a ∧ H7 a = some (.ins c.rate dx fs) ∧ fs.lookup ("shows" : Str) = none ∧ tCons (tVar 2) (tCons (tVar 4) tNil) σ H7 fun vs H8 => spShows c (V.ref x :: (vs ++ [])) H8 R E0) E0 := fun σ H6 n' v' R s2 s4 e6' hv' no kR x dx' nx nd' ne' => by
      refine ⟨x, dx', _, _, rfl, upd_same, fun H' o hx => ⟨rfl, x, dx', _, rfl, hx, lks _ _, _, s2, _, s4, ?_⟩⟩
      have sm := same_made nx nd' o
      refine ⟨x, dx', p, n', v', fs, ps, most, rfl, hx, hv', (t5'.same e6').same sm, good, m0, by omega, fun H8 b8 e8 iff8 => ?_⟩
      cases b8 with
      | true => exact absurd (iff8.mp rfl) no
      | false => exact kR H8 (sm.trans e8)
    refine into ⟨_, rfl, r, _, dx, _, _, rfl, hr5, T.Rate.cl, T.n_rnumber, lkn, rfl, _, rfl, ?_⟩
    rw [one]
    rcases Decidable.em (n = 0) with z | z
    · rw [decide_eq_true z]
      have hv0 := z0 z
      subst hv0
      refine iteT ⟨_, rfl, r, _, dx, _, _, rfl, hr5, T.Rate.cl, T.n_rtick, lkt, rfl, _, rfl, iteT ?_⟩
      intro x dx' nx nd' ne'
      refine made_shows _ H5 1 .non _ ?_ ?_ (Same.refl H5) (.inl rfl) (fun y => ?_) (fun H7 e7 => ?_) x dx' nx nd' ne'
      · rfl
      · rfl
      · rcases y.2.2 with ⟨a, _⟩ | ⟨_, u, a, _⟩
        · exact absurd a (by decide)
        · cases a
      · exact ⟨_, rfl, k H7 (o5.trans (.same e7)) (D5.same e7)⟩
    · rw [decide_eq_false z]
      have np : 0 < n := by omega
      obtain ⟨u, rfl, bey⟩ := z1 np
      have u1 := beyond_small good (by omega) (by omega) m0 (by omega) bey
      refine iteF ?_
      try unfold tNext
      dsimp only
      refine into ⟨_, rfl, Nat.zero_le _, fun l0 nl0 => ⟨_, rfl, r, _, dx, _, _, rfl, made nl0 _ _ hr5, T.Rate.cl, T.n_rnumber, lkn, _, _, rfl, rfl, by show 1 ≤ sizeLine; decide, fun l1 nl1 => ⟨by show 2 ≤ sizeLine; decide, fun tp ntp => ?_⟩⟩⟩
      have e6' := ((made (o := HO.lst []) nl0).trans (made (o := HO.lst [.int (n - 1)]) nl1)).trans (made (o := HO.tup [.ref l0, .ref l1]) ntp)
      have pn6 : PairAt (upd (upd (upd H5 l0 (.lst [])) l1 (.lst [.int (n - 1)])) tp (.tup [.ref l0, .ref l1])) tp [] [n - 1] := ⟨l0, l1, upd_same, made ntp _ _ (made nl1 _ _ upd_same), made ntp _ _ upd_same⟩
      generalize upd (upd (upd H5 l0 (.lst [])) l1 (.lst [.int (n - 1)])) tp (.tup [.ref l0, .ref l1]) = H6 at e6' pn6
      have hr6 := e6' _ _ hr5
      refine ⟨_, rfl, r, _, dx, _, _, rfl, hr6, T.Rate.cl, T.n_rtick, lkt, _, _, rfl, rfl, b, tp, fs, ps, [], [n - 1], u + 1, rfl, pr5.same e6', pn6, good.ne, by have := good.few'; omega, by simp, by simp, by omega, fun H7 t7 w1 w2 e7 ht7 h1 h2 => ?_⟩
      rw [at_one'] at h2
      refine ⟨t7, _, _, .ref w2, rfl, rfl, SqT.of ht7, atI_nat (j := 1) rfl, ?_⟩
      rw [lagsL_succ, List.map_append] at h2
      refine into ⟨_, rfl, 1, rfl, w2, _, _, .int (pre (at_ fs ps) (fun _ => n - 1) (u + 1)), rfl, rfl, SqL.of h2, atI_last _ _, _, rfl, _, _, rfl, rfl, _, rfl, ?_⟩
      rw [decide_eq_false (show ¬ pre (at_ fs ps) (fun _ => n - 1) (u + 1) ≤ most by have := bey.is; omega)]
      refine iteF ?_
      have e7' := e6'.trans e7
      have hr7 := e7' _ _ hr5
      refine ⟨_, rfl, 1, rfl, _, rfl, w2, _, rfl, SqL.of h2, fun l3 nl3 => ?_⟩
      rw [show [pre (at_ fs ps) (fun _ => n - 1) (u + 1)].map V.int = [V.int (pre (at_ fs ps) (fun _ => n - 1) (u + 1))] from rfl, cut_init]
      refine ⟨by show 1 ≤ sizeLine; decide, fun l4 nl4 => ⟨l3, l4, _, _, rfl, rfl, made nl4 _ _ upd_same, upd_same, by rw [List.length_map, lagsL_len, sizeLine_eq]; simp; omega, fun l5 nl5 => ?_⟩⟩
      have e8 := ((made (o := HO.lst ((lagsL (at_ fs ps) (fun _ => n - 1) u).map V.int)) nl3).trans (made (o := HO.lst [.int 0]) nl4)).trans (made (o := HO.lst ((lagsL (at_ fs ps) (fun _ => n - 1) u).map V.int ++ [.int 0])) nl5)
      have h5 : (upd (upd (upd H7 l3 (.lst ((lagsL (at_ fs ps) (fun _ => n - 1) u).map V.int))) l4 (.lst [.int 0])) l5 (.lst ((lagsL (at_ fs ps) (fun _ => n - 1) u).map V.int ++ [.int 0]))) l5 = some (.lst ((lagsL (at_ fs ps) (fun _ => n - 1) u ++ [0]).map V.int)) := by rw [upd_same, List.map_append]; rfl
      generalize upd (upd (upd H7 l3 (.lst ((lagsL (at_ fs ps) (fun _ => n - 1) u).map V.int))) l4 (.lst [.int 0])) l5 (.lst ((lagsL (at_ fs ps) (fun _ => n - 1) u).map V.int ++ [.int 0])) = H8 at e8 h5
      refine ⟨l5, _, rfl, SqL.of h5, by simp, fun mx mem all => ⟨_, rfl, _, _, rfl, rfl, _, rfl, ?_⟩⟩
      have mle : mx ≤ most := by
        rcases List.mem_append.mp mem with h | h
        · obtain ⟨i, hi, rfl⟩ := List.mem_map.mp h
          exact bey.early i (List.mem_range.mp hi)
        · rw [List.mem_singleton.mp h]; exact m0
      rw [decide_eq_false (show ¬ mx > most by omega)]
      refine iteF ?_
      try unfold tNext
      dsimp only
      have e9 := e7'.trans e8
      have hr8 := e9 _ _ hr5
      refine ⟨_, rfl, r, _, dx, _, _, rfl, hr8, T.Rate.cl, T.n_rnumber, lkn, _, _, rfl, rfl, _, rfl, r, _, dx, _, _, rfl, hr8, T.Rate.cl, T.n_rtick, lkt, fun x dx' nx nd' ne' => ?_⟩
      refine made_shows _ H8 (n + 1) (.int u) _ ?_ ?_ e9 (.inr ⟨u, rfl⟩) (fun y => ?_) (fun H9 e10 => ?_) x dx' nx nd' ne'
      · rfl
      · rfl
      · rcases y.2.2 with ⟨a, _⟩ | ⟨_, u', a, hh⟩
        · omega
        · cases a
          rw [show n + 1 - 1 = n by omega, cap_le n100] at hh
          have := rate.enough u; omega
      clear nx nd' ne' x dx'
      have e11 := e9.trans e10
      refine ⟨_, rfl, iteF ?_⟩
      intro x dx' nx nd' ne'
      refine made_shows _ H9 2000 (.int 0) _ ?_ ?_ e11 (.inr ⟨0, rfl⟩) (fun y => ?_) (fun H10 e12 => ?_) x dx' nx nd' ne'
      · rfl
      · rfl
      · rcases y.2.2 with ⟨a, _⟩ | ⟨_, u', a, hh⟩
        · omega
        · rw [show cap (2000 - 1) = 100 from by decide] at hh
          have := rate_stop good m0 u'; omega
      clear nx nd' ne' x dx'
      have e13 := e11.trans e12
      refine ⟨_, rfl, iteF ⟨1, rfl, fun x dx' nx nd' ne' => ?_⟩⟩
      refine made_shows _ H10 (-1) (.int 0) _ ?_ ?_ e13 (.inr ⟨0, rfl⟩) (fun y => ?_) (fun H11 e14 => ?_) x dx' nx nd' ne'
      · rfl
      · rfl
      · have := y.1; omega
      clear nx nd' ne' x dx'
      have e15 := e13.trans e14
      have hr11 := e15 _ _ hr5
      refine ⟨_, rfl, iteF ?_⟩
      try unfold tNext
      dsimp only
      refine ⟨_, rfl, r, _, dx, _, _, rfl, hr11, T.Rate.cl, T.n_rnumber, lkn, _, _, rfl, rfl, fun x dx' nx nd' ne' => ?_⟩
      refine made_shows _ H11 (n - 1) .non _ ?_ ?_ e15 (.inl rfl) (fun y => ?_) (fun H12 e16 => ?_) x dx' nx nd' ne'
      · rfl
      · rfl
      · have a := y.2.1 u
        rw [cap_le (show n - 1 ≤ 100 by omega)] at a
        have := bey.is; omega
      clear nx nd' ne' x dx'
      have e17 := e15.trans e16
      have hr12 := e17 _ _ hr5
      have fin : ∀ H', Same H12 H' → Q (.bl true) H' := fun H' e => k H' (o5.trans (.same (e17.trans e))) (D5.same (e17.trans e))
      refine ⟨_, rfl, _, rfl, iteT ⟨_, rfl, r, _, dx, _, _, rfl, hr12, T.Rate.cl, T.n_rnumber, lkn, _, rfl, r, _, dx, _, _, rfl, hr12, T.Rate.cl, T.n_rtick, lkt, rfl, _, rfl, ?_⟩⟩
      have one' : decide (V.int (u : Int) = V.int 0) = decide (u = 0) := by
        have : (V.int (u : Int) = V.int 0) ↔ u = 0 := ⟨fun e => by cases u with | zero => rfl | succ u => injection e with e; omega, fun e => by rw [e]; rfl⟩
        simp only [this]
      rw [one']
      rcases Decidable.em (u = 0) with uz | uz
      · rw [decide_eq_true uz]
        refine iteT fun x dx' nx nd' ne' => ?_
        refine made_shows _ H12 n .non _ ?_ ?_ e17 (.inl rfl) (fun y => ?_) (fun H13 e18 => ⟨_, rfl, fin H13 e18⟩) x dx' nx nd' ne'
        · rfl
        · rfl
        · rcases y.2.2 with ⟨a, _⟩ | ⟨_, u', a, _⟩
          · omega
          · cases a
      · rw [decide_eq_false uz]
        refine iteF ⟨_, rfl, r, _, dx, _, _, rfl, hr12, T.Rate.cl, T.n_rtick, lkt, _, _, rfl, rfl, fun x dx' nx nd' ne' => ?_⟩
        refine made_shows _ H12 n (.int ((u : Int) - 1)) _ ?_ ?_ e17 (.inr ⟨u - 1, by rw [show ((u - 1 : Nat) : Int) = (u : Int) - 1 by omega]⟩) (fun y => ?_) (fun H13 e18 => ⟨_, rfl, fin H13 e18⟩) x dx' nx nd' ne'
        · rfl
        · rfl
        · rcases y.2.2 with ⟨a, _⟩ | ⟨_, u', a, hh⟩
          · omega
          · injection a with a
            rw [cap_le (show n - 1 ≤ 100 by omega)] at hh
            have := bey.early u' (by omega)
            omega
end
end KT
end
section
/-! What is no timetable is refused. -/
namespace KT
open PySem L2
theorem FnOk.or {P : Program} {w : World} {K : PySem.W.Frag} {mg : Str → Option Value} {base : Heap} {CX : CXT} {k : Nat} {f : Addr} {fd : FuncData} {ps : List Str} {a b : Sp} (x : FnOk P w K mg base CX k f fd ps a) (y : FnOk P w K mg base CX k f fd ps b) :
    FnOk P w K mg base CX k f fd ps (fun vs H Q E => a vs H Q E ∨ b vs H Q E) :=
  ⟨fun vs H Q E h => h.elim (x.len vs H Q E) (y.len vs H Q E), fun A outer s H args us vs Q E hr e0 hb r h => h.elim (fun h => x.run A outer s H args us vs Q E hr e0 hb r h) fun h => y.run A outer s H args us vs Q E hr e0 hb r h⟩
def numB : V → Bool
  | .int i => decide (0 ≤ i)
  | _ => false
/-- values that are asked whether they are numbers -/
def Scal (v : V) : Prop := v = .non ∨ (∃ b, v = .bl b) ∨ ∃ i, v = .int i
def spNumV : Sp := fun vs H Q _ => ∃ v, vs = [v] ∧ Scal v ∧ Q (.bl (numB v)) H
inductive BadN (H : Hp) : V → Prop where
  | non : BadN H .non
  | int (i : Int) : BadN H (.int i)
  | str {x : Str} (h : x.length ≤ sizeLine) : BadN H (.str x)
  | long {a : Addr} {xs : List V} (h : H a = some (.lst xs)) (l : 24 < xs.length) : BadN H (.ref a)
  | one {a : Addr} {x : V} (h : H a = some (.lst [x])) (sc : Scal x) (hb : numB x = true → ∃ i, x = .int i ∧ ¬ i ≤ 100) : BadN H (.ref a)
theorem BadN.same {H H' : Hp} {v : V} (h : BadN H v) (e : Same H H') : BadN H' v := by
  cases h with
  | non => exact .non
  | int i => exact .int i
  | str h => exact .str h
  | long h l => exact .long (e _ _ h) l
  | one h sc hb => exact .one (e _ _ h) sc hb
def spAreB : Sp := fun vs H Q _ => ∃ v, vs = [v] ∧ BadN H v ∧ ∀ H', Same H H' → Q (.bl false) H'
section
variable {P : Program} {w : World} {K : PySem.W.Frag} {mg : Str → Option Value} {base : Heap} {c : Cs}
theorem ok_numV {f : Addr} {fd : FuncData} (F : Fun K "is_number" "is_number" sNum f fd) (T : Txt P w K mg base c) : FnOk P w K mg base CX0 1 f fd ["value"] spNumV := by
  refine F.ok scNum (fun vs H Q E h => ?_) (fun cdv A outer s H vs Q E hr h => ?_)
  · obtain ⟨v, rfl, _⟩ := h
    rfl
  · obtain ⟨v, rfl, sc, k⟩ := h
    refine ⟨_, (pss_one (ps_ret (pe_and (pe_cmpR op_isTyB (pe_callTy call_type1 (by rfl) T.type (by decide +kernel) (pa_cons (pv 0) pa_nil)) (pe_bltn (v := .ty "int") (by rfl) T.int (by decide +kernel) rfl) (nomark _)) (pe_one (pe_cmpR op_ge (pv 0) pe_int (nomark _)))))), ?_⟩
    rcases sc with rfl | ⟨b, rfl⟩ | ⟨i, rfl⟩
    · exact ⟨_, rfl, _, "NoneType", rfl, .non, "NoneType", "int", rfl, rfl, _, rfl, iteF k⟩
    · exact ⟨_, rfl, _, "bool", rfl, .bl b, "bool", "int", rfl, rfl, _, rfl, iteF k⟩
    · exact ⟨_, rfl, _, "int", rfl, .int i, "int", "int", rfl, rfl, _, rfl, iteT ⟨_, rfl, _, _, rfl, rfl, k⟩⟩
theorem kit_no {T : String} (a : PySem.W.kitOne K (.type T) (.type "list") = some false) (b : PySem.W.kitOne K (.type T) (.type "tuple") = some false) : PySem.W.kitAny K (.type T) [.type "list", .type "tuple"] = some false := by
  unfold PySem.W.kitAny
  rw [a]
  dsimp only
  unfold PySem.W.kitAny
  rw [b]; rfl
theorem okB_are {f fN : Addr} {fd fdN : FuncData} (F : Fun K "are_numbers" "are_numbers" sAre f fd) (T : Txt P w K mg base c) (A_is_number : At K mg "is_number" fN) (G_is_number : FnOk P w K mg base CX0 1 fN fdN ["value"] spNumV) (b_is_number : Binds K fdN ["value"] []) :
    FnOk P w K mg base CX0 2 f fd ["rows"] spAreB := by
  refine F.ok scAre (fun vs H Q E h => ?_) (fun cdv A outer s H vs Q E hr h => ?_)
  · obtain ⟨v, rfl, _⟩ := h
    rfl
  · obtain ⟨v, rfl, bad, k⟩ := h
    have nd := scAre.nd
    have hr_is_number : Room 1 _ := hr
    obtain ⟨t24, g24⟩ := T.g_MOST_TICKS
    obtain ⟨t100, g100⟩ := T.g_MOST_ROWS
    refine ⟨_, (pss_cons (ps_if (PW.pt (pw_or (pt_not (pt_val (pe_callB call_isiT (by rfl) T.isinstance (by decide +kernel) (pa_cons (pv 0) (pa_cons (pe_tup (pa_cons (pe_bltn (v := .ty "list") (by rfl) T.list (by decide +kernel) rfl) (pa_cons (pe_bltn (v := .ty "tuple") (by rfl) T.tuple (by decide +kernel) rfl) pa_nil))) pa_nil))))) (pw_or1 (pt_cmpR op_gt (pe_callB call_len_seq (by rfl) T.len PySem.boot_len (pa_cons (pv 0) pa_nil)) (pe_glob (v := .int 24) (by rfl) g24 ⟨_, rfl⟩) (nomark _)))))
        (pss_one (ps_ret pe_bl))
        pss_nil)
      (pss_one (ps_ret (pe_callB (cr_all rfl) (by rfl) T.all (by decide +kernel) (pa_cons (pe_lc (own := [("number", 1)]) (by rfl) nd (pi_list (pv 0)) (blkOk_by (N := nAre) (sc := defScope sAre) (by decide +kernel)) (fun _ _ _ _ _ => (pg_name (i := 1) nd rfl (Or.inl rfl))) (fun _ _ _ _ _ => pts_nil) (fun _ _ _ _ _ => (pe_and (pe_call G_is_number hr_is_number (by rfl) A_is_number.g A_is_number.k b_is_number .nil pass0 (pa_cons (pv 1) pa_nil)) (pe_one (pe_cmpR op_le (pv 1) (pe_glob (v := .int 100) (by rfl) g100 ⟨_, rfl⟩) (nomark _)))))) pa_nil))))), ?_⟩
    refine ⟨_, rfl, by show 2 ≤ sizeLine; decide, fun t nt => ?_⟩
    have e1 : Same H (upd H t (.tup [.ty "list", .ty "tuple"])) := made nt
    cases bad with
    | non => exact ⟨.non, t, _, _, _, _, rfl, upd_same, .cons (.ty _) (.cons (.ty _) .nil), .base .non, kit_no (T := "NoneType") (kit_ty (by decide +kernel)) (kit_ty (by decide +kernel)), _, rfl, iteT (iteT (k _ e1))⟩
    | int i => exact ⟨.int i, t, _, _, _, _, rfl, upd_same, .cons (.ty _) (.cons (.ty _) .nil), .base (.int i), kit_no (T := "int") (kit_ty (by decide +kernel)) (kit_ty (by decide +kernel)), _, rfl, iteT (iteT (k _ e1))⟩
    | str h => exact ⟨.str _, t, _, _, _, _, rfl, upd_same, .cons (.ty _) (.cons (.ty _) .nil), .base (.str _), kit_no (T := "str") (kit_ty (by decide +kernel)) (kit_ty (by decide +kernel)), _, rfl, iteT (iteT (k _ e1))⟩
    | @long a xs h l =>
      refine ⟨.ref a, t, _, _, _, _, rfl, upd_same, .cons (.ty _) (.cons (.ty _) .nil), .base (.lst (made nt _ _ h)), kit_lt, _, rfl, iteF ⟨_, rfl, a, _, rfl, .inl (SqL.of (e1 _ _ h)), _, _, rfl, rfl, _, rfl, ?_⟩⟩
      rw [decide_eq_true (show (xs.length : Int) > 24 by omega)]
      exact iteT (k _ e1)
    | @one a x hx sc hb =>
      refine ⟨.ref a, t, _, _, _, _, rfl, upd_same, .cons (.ty _) (.cons (.ty _) .nil), .base (.lst (made nt _ _ hx)), kit_lt, _, rfl, iteF ⟨_, rfl, a, _, rfl, .inl (SqL.of (e1 _ _ hx)), _, _, rfl, rfl, _, rfl, iteF ?_⟩⟩
      refine ⟨_, rfl, a, rfl, ⟨_, SqL.of (e1 _ _ hx)⟩, fun D hD => lc_list (K := K) (a := a) (xs := [x]) (fun i H' => H' D = some (.lst ((List.replicate i false).map V.bl)) ∧ Same (upd H t (.tup [.ty "list", .ty "tuple"])) H') ⟨upd_same, made hD⟩ (fun i H' _ ⟨_, e⟩ => SqL.of (e _ _ (e1 _ _ hx))) ?_ ?_⟩
      · rintro i y H2 hy ⟨h2, e⟩
        cases i with
        | succ i => cases hy
        | zero =>
          cases (Option.some.inj hy : x = y)
          have fin : ∃ xs, H2 D = some (.lst xs) ∧ xs.length < sizeLine ∧ (upd H2 D (.lst (xs ++ [.bl false]))) D = some (.lst ((List.replicate (0 + 1) false).map V.bl)) ∧ Same (upd H t (.tup [.ty "list", .ty "tuple"])) (upd H2 D (.lst (xs ++ [.bl false]))) :=
            ⟨_, h2, by rw [List.length_map, List.length_replicate, sizeLine_eq]; omega, by rw [upd_same]; rfl, put_in e hD⟩
          refine ⟨rfl, _, rfl, x, rfl, sc, _, rfl, ?_⟩
          cases hn : numB x with
          | false => exact iteF fin
          | true =>
            obtain ⟨i, rfl, hi⟩ := hb hn
            refine iteT ⟨_, rfl, _, _, rfl, rfl, ?_⟩
            dsimp only
            rw [decide_eq_false hi]
            exact fin
      · rintro H2 ⟨h2, e⟩
        exact ⟨D, _, rfl, SqL.of h2, k _ (e1.trans e)⟩
end
end KT
end
section
/-! Functions that refuse. -/
namespace KT
open PySem L2
def spOr (a b : Sp) : Sp := fun vs H Q E => a vs H Q E ∨ b vs H Q E
/-- a good list of numbers, maybe empty -/
structure GoodN (H : Hp) (a : Addr) (ns : List Int) : Prop where
  at_ : H a = some (.lst (ns.map V.int))
  few : ns.length ≤ 24
  low : ∀ x ∈ ns, 0 ≤ x
  high : ∀ x ∈ ns, x ≤ 100
def spTIx (c : Cs) : Sp := fun vs H _ E => ∃ (p dx : Addr) (u v : V), vs = [.ref p, u, v] ∧ H p = some (.ins c.times dx []) ∧ (BadN H u ∨ ∃ a ns, u = .ref a ∧ GoodN H a ns ∧ (BadN H v ∨ ∃ q, v = .ref q ∧ H q = some (.lst []))) ∧ ∀ H', Same H H' → E (.ref c.bad) none H'
/-- no timetable -/
def NoT (H : Hp) (v : V) : Prop := v = .non ∨ ∃ a xs, v = .ref a ∧ H a = some (.lst xs)
theorem NoT.same {H H' : Hp} {v : V} (h : NoT H v) (e : Same H H') : NoT H' v := by
  rcases h with h | ⟨a, xs, h, h2⟩
  · exact .inl h
  · exact .inr ⟨a, xs, h, e _ _ h2⟩
def spCheckX (c : Cs) : Sp := fun vs H Q E => (∃ (p : Addr) (fs ps : List Int), vs = [.ref p] ∧ TimesAt c.times H p fs ps ∧ Q .non H) ∨ ∃ v, vs = [v] ∧ NoT H v ∧ E (.ref c.bad) none H
def spGLx (c : Cs) : Sp := fun vs H _ E => ∃ (p : Addr) (fs ps : List Int) (v : V), vs = [.ref p, v] ∧ TimesAt c.times H p fs ps ∧ NoT H v ∧ E (.ref c.bad) none H
/-- no bound -/
def BadM (v : V) : Prop := Scal v ∧ (numB v = true → ∃ i, v = .int i ∧ 1000 < i)
def spAskedX (c : Cs) : Sp := fun vs H _ E => ∃ (p : Addr) (fs ps : List Int) (v : V), vs = [.ref p, v] ∧ TimesAt c.times H p fs ps ∧ BadM v ∧ E (.ref c.bad) none H
def spKeepX (c : Cs) : Sp := fun vs H _ E => ∃ (p l : Addr) (fs ps : List Int), vs = [.ref p, .ref l] ∧ TimesAt c.times H p fs ps ∧ (H l = some (.lst []) ∨ ∃ q gs qs, H l = some (.lst [.ref q, .non]) ∧ TimesAt c.times H q gs qs) ∧ ∀ H', Same H H' → E (.ref c.bad) none H'
section
variable {P : Program} {w : World} {K : PySem.W.Frag} {mg : Str → Option Value} {base : Heap} {c : Cs}
theorem okx_TI {f fA : Addr} {fd fdA : FuncData} (F : Fun K "__init__" "Times.__init__" sTI f fd) (T : Txt P w K mg base c) (A_are_numbers : At K mg "are_numbers" fA) (G_are_numbers : FnOk P w K mg base CX0 2 fA fdA ["rows"] (spOr (spAre K) spAreB)) (b_are_numbers : Binds K fdA ["rows"] []) :
    FnOk P w K mg base (L2.CX P w) 3 f fd ["self", "front", "period"] (spTIx c) := by
  refine F.okX scTI (fun vs H Q E h => ?_) (fun cdv A outer s H vs Q E hr h => ?_)
  · obtain ⟨p, dx, u, v, rfl, _⟩ := h
    rfl
  · obtain ⟨p, dx, u, v, rfl, hp, bad, k⟩ := h
    have hr_are_numbers : Room 2 _ := hr
    refine ⟨_, (pss_cons (ps_if (PW.pt (pw_or (pt_not (pt_val (pe_call G_are_numbers hr_are_numbers (by rfl) A_are_numbers.g A_are_numbers.k b_are_numbers .nil pass0 (pa_cons (pv 1) pa_nil)))) (pw_or (pt_not (pt_val (pe_call G_are_numbers hr_are_numbers (by rfl) A_are_numbers.g A_are_numbers.k b_are_numbers .nil pass0 (pa_cons (pv 2) pa_nil)))) (pw_or1 (pt_not (pt_truth (pv 2) (by intro _; rfl)))))))
        (pss_one (ps_raise rfl (takes_of rfl rfl rfl rfl) (pmk_own PySem.F.excBase_ValueError T.bad.x T.bad.c T.bad.k (raises_own T.bad.b T.bad.t) (by rfl))))
        pss_nil)
      (pss_cons (ps_fld (pv 0) (pe_callTy call_list_of (by rfl) T.list (by decide +kernel) (pa_cons (pv 1) pa_nil)) rfl)
      (pss_one (ps_fld (pv 0) (pe_callTy call_list_of (by rfl) T.list (by decide +kernel) (pa_cons (pv 2) pa_nil)) rfl)))), ?_⟩
    refine ⟨_, rfl, ?_⟩
    rcases bad with bad | ⟨a, ns, rfl, good, bad⟩
    · exact .inr ⟨u, rfl, bad, fun H1 e1 => ⟨_, rfl, iteT (iteT (k H1 e1))⟩⟩
    · refine .inl ⟨a, ns, rfl, good.at_, good.few, good.low, good.high, fun H1 e1 => ⟨_, rfl, iteF ⟨_, rfl, ?_⟩⟩⟩
      rcases bad with bad | ⟨q, rfl, hq⟩
      · exact .inr ⟨v, rfl, bad.same e1, fun H2 e2 => ⟨_, rfl, iteT (iteT (k H2 (e1.trans e2)))⟩⟩
      · exact .inl ⟨q, [], rfl, e1 _ _ hq, by simp, by simp, by simp, fun H2 e2 => ⟨_, rfl, iteF ⟨_, rfl, false, .inl ⟨_, SqL.of (e2 _ _ (e1 _ _ hq)), rfl⟩, iteT (k H2 (e1.trans e2))⟩⟩⟩
theorem okx_check {f : Addr} {fd : FuncData} (F : Fun K "check_times" "check_times" sCheck f fd) (T : Txt P w K mg base c) : FnOk P w K mg base (L2.CX P w) 1 f fd ["times"] (spCheckX c) := by
  refine F.okX scCheck (fun vs H Q E h => ?_) (fun cdv A outer s H vs Q E hr h => ?_)
  · rcases h with ⟨p, fs, ps, rfl, _⟩ | ⟨v, rfl, _⟩ <;> rfl
  · refine ⟨_, (pss_one (ps_if (pt_not (pt_val (pe_callB call_isi (by rfl) T.isinstance (by decide +kernel) (pa_cons (pv 0) (pa_cons (pe_glob (v := .ref c.times) (by rfl) T.Times.g rfl) pa_nil)))))
        (pss_one (ps_raise rfl (takes_of rfl rfl rfl rfl) (pmk_own PySem.F.excBase_ValueError T.bad.x T.bad.c T.bad.k (raises_own T.bad.b T.bad.t) (by rfl))))
        pss_nil)), ?_⟩
    rcases h with ⟨p, fs, ps, rfl, ⟨dx, a, b, hp, ha, hb⟩, k⟩ | ⟨v, rfl, no, k⟩
    · exact ⟨_, rfl, .ref p, .ref c.times, _, _, true, rfl, .own _, .base (.ins hp T.Times.cl T.Times.own.ha T.Times.own.hn T.Times.own.htk T.Times.own.hm), T.Times.ki, _, rfl, iteF k⟩
    · rcases no with rfl | ⟨a, xs, rfl, ha⟩
      · exact ⟨_, rfl, .non, .ref c.times, _, _, false, rfl, .own _, .base .non, T.no_is, _, rfl, iteT k⟩
      · exact ⟨_, rfl, .ref a, .ref c.times, _, _, false, rfl, .own _, .base (.lst ha), T.lst_is, _, rfl, iteT k⟩
theorem okx_gl {f fC fG fP fL fT fI fJ : Addr} {fd fdC fdG fdP fdL fdT fdI fdJ : FuncData} (F : Fun K "greatest_lag" "greatest_lag" sGL f fd) (T : Txt P w K mg base c)
    (A_check_times : At K mg "check_times" fC) (G_check_times : FnOk P w K mg base (L2.CX P w) 1 fC fdC ["times"] (spCheckX c)) (b_check_times : Binds K fdC ["times"] [])
    (A_growth_of : At K mg "growth_of" fG) (G_growth_of : FnOk P w K mg base CX0 2 fG fdG ["fed", "read"] (spGrow c)) (b_growth_of : Binds K fdG ["fed", "read"] [])
    (A_common_period : At K mg "common_period" fP) (G_common_period : FnOk P w K mg base CX0 1 fP fdP ["one", "other"] (spPer c)) (b_common_period : Binds K fdP ["one", "other"] [])
    (A_lags : At K mg "lags" fL) (G_lags : FnOk P w K mg base CX0 3 fL fdL ["fed", "read", "many"] (spLags c)) (b_lags : Binds K fdL ["fed", "read", "many"] [])
    (A_enough_ticks : At K mg "enough_ticks" fT) (G_enough_ticks : FnOk P w K mg base CX0 2 fT fdT ["fed", "read"] (spTicks c)) (b_enough_ticks : Binds K fdT ["fed", "read"] [])
    (M_Growing : Mk K c.grow fI) (G_Growing : FnOk P w K mg base CX0 1 fI fdI ["self", "period", "growth"] (spR2 c.grow "period" "growth")) (b_Growing : Binds K fdI ["self", "period", "growth"] [])
    (M_Lag : Mk K c.lag fJ) (G_Lag : FnOk P w K mg base CX0 1 fJ fdJ ["self", "number", "tick"] (spR2 c.lag "number" "tick")) (b_Lag : Binds K fdJ ["self", "number", "tick"] []) :
    FnOk P w K mg base (L2.CX P w) 4 f fd ["fed", "read"] (spGLx c) := by
  refine F.okX scGL (fun vs H Q E h => ?_) (fun cdv A outer s H vs Q E hr h => ?_)
  · obtain ⟨p, fs, ps, v, rfl, _⟩ := h
    rfl
  · obtain ⟨p, fs, ps, v, rfl, t, no, k⟩ := h
    have nd := scGL.nd
    have hr_check_times : Room 1 _ := hr.mono (by decide)
    have hr_growth_of : Room 2 _ := hr.mono (by decide)
    have hr_common_period : Room 1 _ := hr.mono (by decide)
    have hr_lags : Room 3 _ := hr
    have hr_enough_ticks : Room 2 _ := hr.mono (by decide)
    have hr_Growing : Room 2 _ := hr.mono (by decide)
    have hr_Lag : Room 2 _ := hr.mono (by decide)
    refine ⟨_, (pss_cons (ps_expr (pe_callS G_check_times hr_check_times (by rfl) A_check_times.g A_check_times.k b_check_times (E := fun _ => E) (fun σ => passAt (takes_of rfl rfl rfl rfl) σ) (pa_cons (pv 0) pa_nil)))
      (pss_cons (ps_expr (pe_callS G_check_times hr_check_times (by rfl) A_check_times.g A_check_times.k b_check_times (E := fun _ => E) (fun σ => passAt (takes_of rfl rfl rfl rfl) σ) (pa_cons (pv 1) pa_nil)))
      (pss_cons (ps_set (i := 2) nd rfl (Or.inl rfl) (pe_call G_growth_of hr_growth_of (by rfl) A_growth_of.g A_growth_of.k b_growth_of .nil pass0 (pa_cons (pv 0) (pa_cons (pv 1) pa_nil))))
      (pss_cons (ps_if (pt_cmpR op_gt (pv 2) pe_int (nomark _))
        (pss_one (ps_ret (pe_make M_Growing G_Growing hr_Growing (by rfl) T.Growing.g b_Growing .nil pass0 (pa_cons (pe_call G_common_period hr_common_period (by rfl) A_common_period.g A_common_period.k b_common_period .nil pass0 (pa_cons (pv 0) (pa_cons (pv 1) pa_nil))) (pa_cons (pv 2) pa_nil)))))
        pss_nil)
      (pss_cons (ps_set (i := 3) nd rfl (Or.inl rfl) (pe_call G_lags hr_lags (by rfl) A_lags.g A_lags.k b_lags .nil pass0 (pa_cons (pv 0) (pa_cons (pv 1) (pa_cons (pe_call G_enough_ticks hr_enough_ticks (by rfl) A_enough_ticks.g A_enough_ticks.k b_enough_ticks .nil pass0 (pa_cons (pv 0) (pa_cons (pv 1) pa_nil))) pa_nil)))))
      (pss_cons (ps_set (i := 4) nd rfl (Or.inl rfl) (pe_callB (cr_max rfl) (by rfl) T.max (by decide +kernel) (pa_cons (pv 3) pa_nil)))
      (pss_one (ps_ret (pe_make M_Lag G_Lag hr_Lag (by rfl) T.Lag.g b_Lag .nil pass0 (pa_cons (pv 4) (pa_cons (pe_bm PySem.F.plainAttrs_list PySem.F.slot_list_index PySem.F.type_list_index mt_index (pv 3) (pa_cons (pv 4) pa_nil)) pa_nil))))))))))), ?_⟩
    exact into ⟨_, rfl, .inl ⟨p, fs, ps, rfl, t, into ⟨_, rfl, .inr ⟨v, rfl, no, k⟩⟩⟩⟩
theorem okx_asked {f fC fN : Addr} {fd fdC fdN : FuncData} (F : Fun K "check_asked" "check_asked" sAsked f fd) (T : Txt P w K mg base c) (A_check_times : At K mg "check_times" fC) (G_check_times : FnOk P w K mg base CX0 1 fC fdC ["times"] (spCheck c)) (b_check_times : Binds K fdC ["times"] [])
    (A_is_number : At K mg "is_number" fN) (G_is_number : FnOk P w K mg base CX0 1 fN fdN ["value"] spNumV) (b_is_number : Binds K fdN ["value"] []) :
    FnOk P w K mg base (L2.CX P w) 2 f fd ["fed", "most"] (spAskedX c) := by
  refine F.okX scAsked (fun vs H Q E h => ?_) (fun cdv A outer s H vs Q E hr h => ?_)
  · obtain ⟨p, fs, ps, v, rfl, _⟩ := h
    rfl
  · obtain ⟨p, fs, ps, v, rfl, t, ⟨sc, bad⟩, k⟩ := h
    have hr_check_times : Room 1 _ := hr
    have hr_is_number : Room 1 _ := hr
    obtain ⟨tB, gB⟩ := T.g_MOST_BOUND
    refine ⟨_, (pss_cons (ps_expr (pe_call G_check_times hr_check_times (by rfl) A_check_times.g A_check_times.k b_check_times .nil pass0 (pa_cons (pv 0) pa_nil)))
      (pss_one (ps_if (PW.pt (pw_or (pt_not (pt_val (pe_call G_is_number hr_is_number (by rfl) A_is_number.g A_is_number.k b_is_number .nil pass0 (pa_cons (pv 1) pa_nil)))) (pw_or1 (pt_cmpR op_gt (pv 1) (pe_glob (v := .int 1000) (by rfl) gB ⟨_, rfl⟩) (nomark _)))))
        (pss_one (ps_raise rfl (takes_of rfl rfl rfl rfl) (pmk_own PySem.F.excBase_ValueError T.bad.x T.bad.c T.bad.k (raises_own T.bad.b T.bad.t) (by rfl))))
        pss_nil))), ?_⟩
    refine into ⟨_, rfl, p, fs, ps, rfl, t, ⟨_, rfl, v, rfl, sc, _, rfl, ?_⟩⟩
    cases hn : numB v with
    | false => exact iteT (iteT k)
    | true =>
      obtain ⟨i, rfl, hi⟩ := bad hn
      refine iteF ⟨_, rfl, _, _, rfl, rfl, _, rfl, ?_⟩
      rw [decide_eq_true (show i > 1000 by omega)]
      exact iteT k
theorem okx_rate {f fC fE fB fI : Addr} {fd fdC fdE fdB fdI : FuncData} (F : Fun K "least_rate" "least_rate" sRate f fd) (T : Txt P w K mg base c) (A_check_asked : At K mg "check_asked" fC) (G_check_asked : FnOk P w K mg base (L2.CX P w) 2 fC fdC ["fed", "most"] (spAskedX c)) (b_check_asked : Binds K fdC ["fed", "most"] [])
    (A_is_enough : At K mg "is_enough" fE) (G_is_enough : FnOk P w K mg base CX0 6 fE fdE ["fed", "number", "most"] (spEnough c)) (b_is_enough : Binds K fdE ["fed", "number", "most"] [])
    (A_first_beyond : At K mg "first_beyond" fB) (G_first_beyond : FnOk P w K mg base CX0 2 fB fdB ["fed", "number", "most"] (spBeyond c)) (b_first_beyond : Binds K fdB ["fed", "number", "most"] [])
    (M_Rate : Mk K c.rate fI) (G_Rate : FnOk P w K mg base CX0 1 fI fdI ["self", "number", "tick"] (spR2 c.rate "number" "tick")) (b_Rate : Binds K fdI ["self", "number", "tick"] []) :
    FnOk P w K mg base (L2.CX P w) 7 f fd ["fed", "most"] (spAskedX c) := by
  refine F.okX scRate (fun vs H Q E h => ?_) (fun cdv A outer s H vs Q E hr h => ?_)
  · obtain ⟨p, fs, ps, v, rfl, _⟩ := h
    rfl
  · obtain ⟨p, fs, ps, v, rfl, t, bad, k⟩ := h
    have nd := scRate.nd
    have hr_check_asked : Room 2 _ := hr.mono (by decide)
    have hr_is_enough : Room 6 _ := hr
    have hr_first_beyond : Room 2 _ := hr.mono (by decide)
    have hr_Rate : Room 2 _ := hr.mono (by decide)
    refine ⟨_, (pss_cons (ps_expr (pe_callS G_check_asked hr_check_asked (by rfl) A_check_asked.g A_check_asked.k b_check_asked (E := fun _ => E) (fun σ => passAt (takes_of rfl rfl rfl rfl) σ) (pa_cons (pv 0) (pa_cons (pv 1) pa_nil))))
      (PSs.nox (pss_cons (ps_set (i := 2) nd rfl (Or.inl rfl) (pe_int))
      (pss_cons (ps_while PassesOwn.never (pt_not (pt_val (pe_call G_is_enough hr_is_enough (by rfl) A_is_enough.g A_is_enough.k b_is_enough .nil pass0 (pa_cons (pv 0) (pa_cons (pv 2) (pa_cons (pv 1) pa_nil))))))
        (pss_one (ps_aug (i := 2) nd rfl (Or.inl rfl) pe_int ip_add)))
      (pss_one (ps_ret (pe_make M_Rate G_Rate hr_Rate (by rfl) T.Rate.g b_Rate .nil pass0 (pa_cons (pv 2) (pa_cons (pe_ifExp (pt_cmpR op_gt (pv 2) pe_int (nomark _)) (pe_call G_first_beyond hr_first_beyond (by rfl) A_first_beyond.g A_first_beyond.k b_first_beyond .nil pass0 (pa_cons (pv 0) (pa_cons (pe_op op_sub (pv 2) pe_int) (pa_cons (pv 1) pa_nil)))) pe_non) pa_nil))))))))), ?_⟩
    exact into ⟨_, rfl, _, rfl, p, fs, ps, v, rfl, t, bad, k⟩
set_option maxHeartbeats 1000000 in
theorem okx_keep {f fC fG fP fT fW fI fJ : Addr} {fd fdC fdG fdP fdT fdW fdI fdJ : FuncData} (F : Fun K "least_keeping" "least_keeping" sKeep f fd) (T : Txt P w K mg base c)
    (A_check_times : At K mg "check_times" fC) (G_check_times : FnOk P w K mg base (L2.CX P w) 1 fC fdC ["times"] (spCheckX c)) (b_check_times : Binds K fdC ["times"] [])
    (A_growth_of : At K mg "growth_of" fG) (G_growth_of : FnOk P w K mg base CX0 2 fG fdG ["fed", "read"] (spGrow c)) (b_growth_of : Binds K fdG ["fed", "read"] [])
    (A_common_period : At K mg "common_period" fP) (G_common_period : FnOk P w K mg base CX0 1 fP fdP ["one", "other"] (spPer c)) (b_common_period : Binds K fdP ["one", "other"] [])
    (A_enough_ticks : At K mg "enough_ticks" fT) (G_enough_ticks : FnOk P w K mg base CX0 2 fT fdT ["fed", "read"] (spTicks c)) (b_enough_ticks : Binds K fdT ["fed", "read"] [])
    (A_waiting_rows : At K mg "waiting_rows" fW) (G_waiting_rows : FnOk P w K mg base CX0 4 fW fdW ["fed", "read", "many"] (spWait c)) (b_waiting_rows : Binds K fdW ["fed", "read", "many"] [])
    (M_Growing : Mk K c.grow fI) (G_Growing : FnOk P w K mg base CX0 1 fI fdI ["self", "period", "growth"] (spR2 c.grow "period" "growth")) (b_Growing : Binds K fdI ["self", "period", "growth"] [])
    (M_Keep : Mk K c.keep fJ) (G_Keep : FnOk P w K mg base CX0 1 fJ fdJ ["self", "rows", "tick", "group"] (spK3 c.keep)) (b_Keep : Binds K fdJ ["self", "rows", "tick", "group"] []) :
    FnOk P w K mg base (L2.CX P w) 5 f fd ["fed", "groups"] (spKeepX c) := by
  refine F.okX scKeep (fun vs H Q E h => ?_) (fun cdv A outer s H vs Q E hr h => ?_)
  · obtain ⟨p, l, fs, ps, rfl, _⟩ := h
    rfl
  · obtain ⟨p, l, fs, ps, rfl, t, cas, k⟩ := h
    have nd := scKeep.nd
    have hu1 : _ < cLine := hr.in1.units0
    have hr_check_times : Room 1 _ := hr.mono (by decide)
    have hr_growth_of : Room 2 _ := hr.mono (by decide)
    have hr_common_period : Room 1 _ := hr.mono (by decide)
    have hr_enough_ticks : Room 2 _ := hr.mono (by decide)
    have hr_waiting_rows : Room 4 _ := hr
    have hr_Growing : Room 2 _ := hr.mono (by decide)
    have hr_Keep : Room 2 _ := hr.mono (by decide)
    refine ⟨_, (pss_cons (ps_expr (pe_callS G_check_times hr_check_times (by rfl) A_check_times.g A_check_times.k b_check_times (E := fun _ => E) (fun σ => passAt (takes_of rfl rfl rfl rfl) σ) (pa_cons (pv 0) pa_nil)))
      (pss_cons (ps_if (PW.pt (pw_or (pt_not (pt_val (pe_callB call_isiT (by rfl) T.isinstance (by decide +kernel) (pa_cons (pv 1) (pa_cons (pe_tup (pa_cons (pe_bltn (v := .ty "list") (by rfl) T.list (by decide +kernel) rfl) (pa_cons (pe_bltn (v := .ty "tuple") (by rfl) T.tuple (by decide +kernel) rfl) pa_nil))) pa_nil))))) (pw_or1 (pt_not (pt_truth (pv 1) (by intro _; rfl))))))
        (pss_one (ps_raise rfl (takes_of rfl rfl rfl rfl) (pmk_own PySem.F.excBase_ValueError T.bad.x T.bad.c T.bad.k (raises_own T.bad.b T.bad.t) (by rfl))))
        pss_nil)
      (pss_cons (ps_for (by first | exact PassesOwn.never | exact passes_of rfl) rfl (pi_list (pv 1)) (pg_name (i := 2) nd rfl (Or.inl rfl))
        (pss_one (ps_expr (pe_callS G_check_times hr_check_times (by rfl) A_check_times.g A_check_times.k b_check_times (E := fun _ => E) (fun σ => passAt (takes_of rfl rfl rfl rfl) σ) (pa_cons (pv 2) pa_nil)))))
      (PSs.nox (pss_cons (ps_set (i := 3) nd rfl (Or.inl rfl) (pe_lst pa_nil))
      (pss_cons (ps_for (by first | exact PassesOwn.never | exact passes_of rfl) rfl (pi_enum (by rfl) T.enumerate (pa_cons (pv 1) pa_nil)) (pg_tup rfl (pgs_cons (pg_name (i := 4) nd rfl (Or.inl rfl)) (pgs_cons (pg_name (i := 2) nd rfl (Or.inl rfl)) pgs_nil)))
        (pss_cons (ps_set (i := 5) nd rfl (Or.inl rfl) (pe_call G_growth_of hr_growth_of (by rfl) A_growth_of.g A_growth_of.k b_growth_of .nil pass0 (pa_cons (pv 0) (pa_cons (pv 2) pa_nil))))
        (pss_cons (ps_if (pt_cmpR op_gt (pv 5) pe_int (nomark _))
          (pss_one (ps_ret (pe_make M_Growing G_Growing hr_Growing (by rfl) T.Growing.g b_Growing .nil pass0 (pa_cons (pe_call G_common_period hr_common_period (by rfl) A_common_period.g A_common_period.k b_common_period .nil pass0 (pa_cons (pv 0) (pa_cons (pv 2) pa_nil))) (pa_cons (pv 5) pa_nil)))))
          pss_nil)
        (pss_cons (ps_set (i := 6) nd rfl (Or.inl rfl) (pe_call G_waiting_rows hr_waiting_rows (by rfl) A_waiting_rows.g A_waiting_rows.k b_waiting_rows .nil pass0 (pa_cons (pv 0) (pa_cons (pv 2) (pa_cons (pe_call G_enough_ticks hr_enough_ticks (by rfl) A_enough_ticks.g A_enough_ticks.k b_enough_ticks .nil pass0 (pa_cons (pv 0) (pa_cons (pv 2) pa_nil))) pa_nil)))))
        (pss_cons (ps_set (i := 7) nd rfl (Or.inl rfl) (pe_callB (cr_max rfl) (by rfl) T.max (by decide +kernel) (pa_cons (pv 6) pa_nil)))
        (pss_one (ps_expr (pe_bm PySem.F.plainAttrs_list PySem.F.slot_list_append PySem.F.type_list_append mt_append (pv 3) (pa_cons (pe_tup (pa_cons (pe_un un_neg (pv 7)) (pa_cons (pe_bm PySem.F.plainAttrs_list PySem.F.slot_list_index PySem.F.type_list_index mt_index (pv 6) (pa_cons (pv 7) pa_nil)) (pa_cons (pv 4) pa_nil)))) pa_nil)))))))))
      (pss_cons (ps_asg (pe_callB (cr_minT rfl hu1) (by rfl) T.min (by decide +kernel) (pa_cons (pv 3) pa_nil)) (pg_tup rfl (pgs_cons (pg_name (i := 7) nd rfl (Or.inl rfl)) (pgs_cons (pg_name (i := 8) nd rfl (Or.inl rfl)) (pgs_cons (pg_name (i := 9) nd rfl (Or.inl rfl)) pgs_nil)))))
      (pss_one (ps_ret (pe_make M_Keep G_Keep hr_Keep (by rfl) T.Keep.g b_Keep .nil pass0 (pa_cons (pe_un un_neg (pv 7)) (pa_cons (pv 8) (pa_cons (pv 9) pa_nil))))))))))))), ?_⟩
    refine into ⟨_, rfl, .inl ⟨p, fs, ps, rfl, t, ?_⟩⟩
    have hl : ∃ xs : List V, H l = some (.lst xs) := by
      rcases cas with h | ⟨q, gs, qs, h, _⟩
      · exact ⟨_, h⟩
      · exact ⟨_, h⟩
    obtain ⟨xs, hl⟩ := hl
    refine into ⟨_, rfl, by show 2 ≤ sizeLine; decide, fun tp nt => ⟨.ref l, tp, _, _, _, _, rfl, upd_same, .cons (.ty _) (.cons (.ty _) .nil), .base (.lst (made nt _ _ hl)), kit_lt, _, rfl, iteF ?_⟩⟩
    have e1 : Same H (upd H tp (.tup [.ty "list", .ty "tuple"])) := made nt
    generalize upd H tp (.tup [.ty "list", .ty "tuple"]) = H1 at e1
    rcases cas with h | ⟨q, gs, qs, h, tq⟩
    · exact ⟨_, rfl, false, .inl ⟨_, SqL.of (e1 _ _ h), rfl⟩, iteT (k _ e1)⟩
    · refine ⟨_, rfl, true, .inl ⟨_, SqL.of (e1 _ _ h), rfl⟩, iteF ?_⟩
      unfold tNext
      dsimp only
      refine into ⟨_, rfl, l, rfl, ⟨_, SqL.of (e1 _ _ h)⟩, for_list (xs := [.ref q, .non]) (fun i σ H' => H' = H1 ∧ i ≤ 1 ∧ ∃ v : Option V, σ = [some (.ref p), some (.ref l), v, none, none, none, none, none, none, none]) ⟨rfl, by omega, none, rfl⟩ (fun i σ H' _ h' => h'.1 ▸ SqL.of (e1 _ _ h)) ?_ ?_⟩
      · rintro i x σ H' hx ⟨rfl, hi, v, rfl⟩
        cases i with
        | zero =>
          cases (Option.some.inj hx : V.ref q = x)
          exact ⟨_, rfl, .inl ⟨q, _, _, rfl, tq.same e1, rfl, by omega, some (.ref q), rfl⟩⟩
        | succ i =>
          obtain rfl : i = 0 := by omega
          cases (Option.some.inj hx : V.non = x)
          exact ⟨_, rfl, .inr ⟨.non, rfl, .inl rfl, k _ e1⟩⟩
      · rintro σ H' ⟨_, hi, _⟩
        exact absurd hi (by show ¬ (2 ≤ 1); decide)
end
end KT
end
section
/-! The law's question whether a deed is refused. -/
namespace KT
open PySem PySem.Spec PyProof.Rows L2 LamX
/-- told: try: a() / except .. as error: return isinstance(..) / return False -/
def TTref (CB : Addr) : (XK → Hp → VK → Prop) → Hp → VK → Prop := fun tl H Q => tl (fun cls d H' => cls = .ref CB ∧ d = none ∧ Q (.bl true) H') H (fun _ H' => Q (.bl false) H')
section
variable {P : Program} {w : World} {K : PySem.W.Frag} {mg : Str → Option Value} {base : Heap} {c : Cs}
abbrev sIsRef : Stmt := top 43
abbrev nIsRef : List Str := ["deed", "error"]
theorem scIsRef : FnScope nIsRef ["deed"] (defScope sIsRef) := ⟨rfl, rfl, rfl, by decide +kernel, rfl, by decide +kernel, by decide +kernel⟩
theorem refused_gives {X : Cx} {g : Addr} {cdg : Value} {q : Str} (hK : X.K = K) (hmg : X.mg = mg) (T : Txt P w K mg base c) : GivesTo X nIsRef "_law_is_refused" (defScope sIsRef) g cdg (defBody sIsRef) "deed" q (TTref c.bad) := by
  subst hK hmg
  intro f c' s H Q tl act hc h
  have nd := scIsRef.nd
  refine ⟨_, pss_cons (ps_try_as (X := (cxOf C8.CX0 X.prog X.w X.K X.mg X.base nIsRef "_law_is_refused" (defScope sIsRef) g cdg X.A X.stack s H C8.E0).nox) (i := 1) (c := .ref c.bad)
      (tb := fun (W : WX) (D : Ends) (σ : L2.St) (H : Hp) => ∃ Ech : XK, (∀ (cls : Value) (d : Option Addr) (σ' : L2.St) (H' : Hp), Ech cls d H' → W cls d σ' H') ∧ σ[0]? = some (some (.ref f)) ∧ H c' = some (CodeO c' q) ∧ tl Ech H fun _ H' => D.nx σ H')
      (ts := fun (a : Addr) (cls : Value) (d : Option Addr) (D : Ends) (σ : L2.St) (H : Hp) => cls = .ref c.bad ∧ d = none ∧ (∃ σ0 : L2.St, σ = σ0.set 1 (some (.ref a))) ∧ D.rt (.bl true) H)
      rfl rfl nd rfl rfl ⟨rfl, by decide, Or.inl T.bad.c⟩ LamX.takes0 (fun W pn xe tk _ => ?_) (fun a oe cls d pn hz hf => ?_)) (pss_one (ps_ret pe_bl)), ?_⟩
  · exact ⟨fun kept st σ Hn Dn inv ⟨Er, toW, slot, code, told⟩ => (pss_one (ps_expr (act W pn xe Er ⟨243, 8, 243, 12⟩ ⟨243, 8, 243, 14⟩ tk toW))).run kept st σ Hn Dn inv ⟨slot, code, told⟩⟩
  · refine ⟨fun pins st σ Hn Dn I ⟨e1, e2, ⟨σ0, e3⟩, h2⟩ => ?_⟩
    subst e1 e2 e3
    have len : (σ0.set 1 (some (V.ref a))).length = 2 := I.len
    rw [List.length_set] at len
    have h1 : (σ0.set 1 (some (V.ref a)))[1]? = some (some (V.ref a)) := by rw [List.getElem?_set_self (by omega)]
    exact (pss_one (ps_ret (pe_callB (call_isE (X := (cxOf C8.CX0 X.prog X.w X.K X.mg X.base nIsRef "_law_is_refused" (defScope sIsRef) g cdg X.A X.stack s H C8.E0).nox) T.bad.e hz hf) (by rfl) T.isinstance (by decide +kernel) (pa_cons (pv 1) (pa_cons (pe_glob (v := .ref c.broker) (by rfl) T.bad.g rfl) pa_nil))))).run pins st _ Hn Dn I ⟨_, h1, .ref c.broker, .ref c.broker, true, rfl, fun u r => r, T.bad.ki, h2⟩
  · refine ⟨fun cls d H' => cls = .ref c.bad ∧ d = none ∧ Q (.bl true) H', fun cls d σ' H' ⟨e1, e2, e3⟩ => ?_, rfl, hc, h⟩
    subst e1 e2
    exact ⟨true, T.bad.self, fun _ a na => ⟨rfl, rfl, ⟨_, rfl⟩, e3⟩, fun z => nomatch z⟩
end
end KT
end
section
/-! The law's refusals. -/
namespace KT
open PySem PySem.Spec PyProof.Rows L2 LamX
theorem lam_ref {X : Cx} {c : Cs} {g cc PP : Addr} {fd : FuncData} {k : Nat} {params : Arguments} {body : Expr} {scope : Scope} {t : XK → TE} {p lpos pos : Pos} (T : Txt X.prog X.w X.K X.mg X.base c)
    (F : Fun X.K "_law_is_refused" "_law_is_refused" sIsRef g fd) (A : At X.K X.mg "_law_is_refused" g) (B : L2.Binds X.K fd ["deed"] []) (TB : TabB X.base X.mg cc PP) (hcode : X.env.code = .ref cc) (hr : Room (k + 2) X.A) (hg : Gl X "_law_is_refused") (L : LamS X.env.scope scope)
    (hdef : defaultsOf params X.env = ([], [])) (hbind : ∀ (q : Str) (cl : List (Str × Addr)) (pm cv ctv : Value), bindArgs (PySem.W.kla_fn "<lambda>" q params body scope cl pm cv ctv) ⟨[], []⟩ = pure [])
    (hbody : ∀ (A : Around) (outer : List Env) (s : Shared) (H : Hp) (E : XK) (f c' : Addr), Room k (A.deeper (lamEnv X scope s.heap.objs.size f c')) → PE (lamCx X A outer s H E scope f c') body (t E)) :
    PE X (.Call (.Name "_law_is_refused" p) [.Lambda params body scope lpos] [] pos) (tLam [(PP, X.env.qual ++ "<lambda>")] (TTref c.bad) t) := by
  obtain ⟨_, _, _, _, _, _, _, _, _, e, lk, code⟩ := F.ex
  subst e
  exact pe_lamcall hg A.g A.k lk code B scIsRef rfl (.inl rfl) (refused_gives rfl rfl T) TB hcode (List.mem_singleton.mpr rfl) (fun q hq _ => by rw [List.mem_singleton.mp hq]) hr L hdef hbind hbody
theorem passLam {X : Cx} {A : Around} {outer : List Env} {s : Shared} {H : Hp} {E : XK} {scope : Scope} {f c' : Addr} : Passes (L2.CX X.prog X.w) (lamCx X A outer s H E scope f c') E := passes_call (X := lamCx X A outer s H E scope f c') (takes_of rfl rfl rfl rfl) fun _ _ _ _ h => h
abbrev sRefd : Stmt := top 45
abbrev nRefd : List Str := ["one", "told", "most"]
theorem scRefd : FnScope nRefd [] (defScope sRefd) := ⟨rfl, rfl, rfl, by decide +kernel, rfl, by decide +kernel, by decide +kernel⟩
def lamQ : Str := (envOfC "_law_refused" (defScope sRefd) 0 0 .none).qual ++ "<lambda>"
def spRefd (PP : Addr) : Sp := fun vs H Q _ => vs = [] ∧ Tabs [(PP, lamQ)] H ∧ ∀ H', ExtN H H' → Q (.bl true) H'
theorem TimesAt.ext {C p : Addr} {H H' : Hp} {fs ps : List Int} (h : TimesAt C H p fs ps) (e : ExtN H H') : TimesAt C H' p fs ps :=
  have ⟨dx, a, b, h1, h2, h3⟩ := h
  ⟨dx, a, b, e _ _ h1 (fun _ z => nomatch z), e _ _ h2 (fun _ z => nomatch z), e _ _ h3 (fun _ z => nomatch z)⟩
/-! ### what is built -/
def Makes (te : TE) (R : Hp → V → Prop) : Prop := ∀ σ H (Q : VK), (∀ H' v, Same H H' → R H' v → Q v H') → te σ H Q
theorem Makes.imp {te : TE} {R R' : Hp → V → Prop} (m : Makes te R) (h : ∀ H v, R H v → R' H v) : Makes te R' := fun σ H Q k => m σ H Q fun H' v e r => k H' v e (h _ _ r)
theorem mk_c {v : V} : Makes (tC v) (fun _ x => x = v) := fun σ H Q k => k H v (Same.refl H) rfl
theorem mk_neg {i : Int} : Makes (tUn (rU fun i => .int (-i)) (tC (.int i))) (fun _ x => x = .int (-i)) := fun σ H Q k => ⟨i, rfl, k H _ (Same.refl H) rfl⟩
def LongIs (H : Hp) (v : V) : Prop := ∃ (a : Addr) (xs : List V), v = .ref a ∧ H a = some (.lst xs) ∧ 24 < xs.length
def LstIs (xs : List V) (H : Hp) (v : V) : Prop := ∃ a, v = .ref a ∧ H a = some (.lst xs)
theorem mk_nil : Makes (tLst tNil) (LstIs []) := fun σ H Q k => ⟨Nat.zero_le _, fun p hp => k _ _ (made hp) ⟨p, rfl, upd_same⟩⟩
theorem mk_one {te : TE} {v : V} (m : Makes te (fun _ x => x = v)) : Makes (tLst (tCons te tNil)) (LstIs [v]) := fun σ H Q k => m σ H _ fun H' x e r => by
  subst r
  exact ⟨by show 1 ≤ sizeLine; decide, fun p hp => k _ _ (e.trans (made hp)) ⟨p, rfl, upd_same⟩⟩
theorem mk_rep {te : TE} {v : V} (m : Makes te (LstIs [v])) : Makes (tOp rRep te (tC (.int 25))) LongIs := fun σ H Q k => m σ H _ fun H' x e ⟨a, ea, ha⟩ => by
  subst ea
  refine ⟨a, 25, _, rfl, rfl, ha, by decide, by decide, (show 1 * 25 ≤ sizeLine by decide), fun p hp => k _ _ (e.trans (made hp)) ⟨p, _, rfl, upd_same, ?_⟩⟩
  show 24 < (List.replicate 25 [v]).flatten.length
  simp
def BadPair (H : Hp) (x y : V) : Prop := BadN H x ∨ ∃ a ns, x = .ref a ∧ GoodN H a ns ∧ (BadN H y ∨ ∃ q, y = .ref q ∧ H q = some (.lst []))
def ItemAt (H : Hp) (v : V) : Prop := ∃ a x y, v = .ref a ∧ H a = some (.tup [x, y]) ∧ BadPair H x y
theorem mk_pair {tx ty : TE} {Rx Ry : Hp → V → Prop} (mx : Makes tx Rx) (my : Makes ty Ry) (sx : ∀ H H' v, Same H H' → Rx H v → Rx H' v) (h : ∀ H x y, Rx H x → Ry H y → BadPair H x y) (sy : ∀ H H' v, Same H H' → Ry H v → Ry H' v) : Makes (tTup (tCons tx (tCons ty tNil))) ItemAt := fun σ H Q k =>
  mx σ H _ fun H1 x e1 rx => my σ H1 _ fun H2 y e2 ry => ⟨by show 2 ≤ sizeLine; decide, fun p hp => k _ _ ((e1.trans e2).trans (made hp)) ⟨p, x, y, rfl, upd_same, h _ _ _ (sx _ _ _ (made hp) (sx _ _ _ e2 rx)) (sy _ _ _ (made hp) ry)⟩⟩
theorem lst_same {xs : List V} : ∀ H H' v, Same H H' → LstIs xs H v → LstIs xs H' v := fun H H' v e ⟨a, ea, ha⟩ => ⟨a, ea, e _ _ ha⟩
theorem eq_same {u : V} : ∀ (H H' : Hp) (v : V), Same H H' → v = u → v = u := fun _ _ _ _ h => h
theorem long_same : ∀ H H' v, Same H H' → LongIs H v → LongIs H' v := fun H H' v e ⟨a, xs, h1, h2, h3⟩ => ⟨a, xs, h1, e _ _ h2, h3⟩
def MakesAll (t : TA) (n : Nat) : Prop := ∀ σ H (Q : List V → Hp → Prop), (∀ H' vs, Same H H' → vs.length = n → (∀ v ∈ vs, ItemAt H' v) → Q vs H') → t σ H Q
theorem BadPair.ext {H H' : Hp} {x y : V} (h : BadPair H x y) (e : ExtN H H') : BadPair H' x y := by
  have bad : ∀ {v}, BadN H v → BadN H' v := fun {v} h => by
    cases h with
    | non => exact .non
    | int i => exact .int i
    | str h => exact .str h
    | long h l => exact .long (e _ _ h fun _ z => nomatch z) l
    | one h sc hb => exact .one (e _ _ h fun _ z => nomatch z) sc hb
  rcases h with h | ⟨a, ns, ea, g, h⟩
  · exact .inl (bad h)
  · refine .inr ⟨a, ns, ea, ⟨e _ _ g.at_ (fun _ z => nomatch z), g.few, g.low, g.high⟩, ?_⟩
    rcases h with h | ⟨q, eq, hq⟩
    · exact .inl (bad h)
    · exact .inr ⟨q, eq, e _ _ hq fun _ z => nomatch z⟩
theorem ItemAt.ext {H H' : Hp} {v : V} (h : ItemAt H v) (e : ExtN H H') : ItemAt H' v := let ⟨a, x, y, ea, ha, b⟩ := h; ⟨a, x, y, ea, e _ _ ha (fun _ z => nomatch z), b.ext e⟩
theorem mk_nils : MakesAll tNil 0 := fun σ H Q k => k H [] (Same.refl H) rfl (fun _ h => by cases h)
theorem mk_more {te : TE} {t : TA} {n : Nat} (m : Makes te ItemAt) (ms : MakesAll t n) : MakesAll (tCons te t) (n + 1) := fun σ H Q k =>
  m σ H _ fun H1 v e1 r => ms σ H1 _ fun H2 vs e2 l rs => k H2 (v :: vs) (e1.trans e2) (by rw [List.length_cons, l]) fun u hu => by
    rcases List.mem_cons.mp hu with rfl | hu
    · exact r.ext (.of e2)
    · exact rs u hu
theorem bad_one {H : Hp} {x : V} {u : V} (h : LstIs [u] H x) (sc : Scal u) (hb : numB u = true → ∃ i, u = .int i ∧ ¬ i ≤ 100) : BadN H x := let ⟨a, ea, ha⟩ := h; ea ▸ .one ha sc hb
theorem good_nil {H : Hp} {x : V} (h : LstIs [] H x) : ∃ a ns, x = .ref a ∧ GoodN H a ns := let ⟨a, ea, ha⟩ := h; ⟨a, [], ea, ha, by simp, by simp, by simp⟩
theorem good_1 {H : Hp} {x : V} (h : LstIs [.int 1] H x) : ∃ a ns, x = .ref a ∧ GoodN H a ns := let ⟨a, ea, ha⟩ := h; ⟨a, [1], ea, ha, by simp, by simp, by simp⟩
theorem bad_long {H : Hp} {x : V} (h : LongIs H x) : BadN H x := let ⟨a, xs, ea, ha, l⟩ := h; ea ▸ .long ha l
theorem pair_2 {H : Hp} {x y : V} (g : ∃ a ns, x = .ref a ∧ GoodN H a ns) (b : BadN H y ∨ ∃ q, y = .ref q ∧ H q = some (.lst [])) : BadPair H x y := let ⟨a, ns, ea, g⟩ := g; .inr ⟨a, ns, ea, g, b⟩
theorem str_ok : (Str.ofString "1").length ≤ sizeLine := by decide +kernel
theorem ten : MakesAll (tCons (tTup (tCons (tLst tNil) (tCons (tLst tNil) tNil))) (tCons (tTup (tCons (tLst (tCons (tC (.int 1)) tNil)) (tCons (tLst tNil) tNil)))
    (tCons (tTup (tCons (tOp rRep (tLst (tCons (tC (.int 0)) tNil)) (tC (.int 25))) (tCons (tLst (tCons (tC (.int 1)) tNil)) tNil))) (tCons (tTup (tCons (tLst tNil) (tCons (tOp rRep (tLst (tCons (tC (.int 0)) tNil)) (tC (.int 25))) tNil)))
    (tCons (tTup (tCons (tLst (tCons (tC (.int 101)) tNil)) (tCons (tLst (tCons (tC (.int 1)) tNil)) tNil))) (tCons (tTup (tCons (tLst (tCons (tUn (rU fun i => .int (-i)) (tC (.int 1))) tNil)) (tCons (tLst (tCons (tC (.int 1)) tNil)) tNil)))
    (tCons (tTup (tCons (tLst (tCons (tC (.bl true)) tNil)) (tCons (tLst (tCons (tC (.int 1)) tNil)) tNil))) (tCons (tTup (tCons (tC .non) (tCons (tLst (tCons (tC (.int 1)) tNil)) tNil)))
    (tCons (tTup (tCons (tLst tNil) (tCons (tC (.int 3)) tNil))) (tCons (tTup (tCons (tC (.str (Str.ofString "1"))) (tCons (tLst (tCons (tC (.int 1)) tNil)) tNil))) tNil)))))))))) 10 := by
  refine mk_more (mk_pair mk_nil mk_nil lst_same (fun H x y a b => pair_2 (good_nil a) (.inr b)) lst_same) ?_
  refine mk_more (mk_pair (mk_one mk_c) mk_nil lst_same (fun H x y a b => pair_2 (good_1 a) (.inr b)) lst_same) ?_
  refine mk_more (mk_pair (mk_rep (mk_one mk_c)) (mk_one mk_c) long_same (fun H x y a b => .inl (bad_long a)) lst_same) ?_
  refine mk_more (mk_pair mk_nil (mk_rep (mk_one mk_c)) lst_same (fun H x y a b => pair_2 (good_nil a) (.inl (bad_long b))) long_same) ?_
  refine mk_more (mk_pair (mk_one mk_c) (mk_one mk_c) lst_same (fun H x y a b => .inl (bad_one a (.inr (.inr ⟨_, rfl⟩)) fun _ => ⟨101, rfl, by decide⟩)) lst_same) ?_
  refine mk_more (mk_pair (mk_one mk_neg) (mk_one mk_c) lst_same (fun H x y a b => .inl (bad_one a (.inr (.inr ⟨_, rfl⟩)) fun z => by cases z)) lst_same) ?_
  refine mk_more (mk_pair (mk_one mk_c) (mk_one mk_c) lst_same (fun H x y a b => .inl (bad_one a (.inr (.inl ⟨_, rfl⟩)) fun z => by cases z)) lst_same) ?_
  refine mk_more (mk_pair mk_c (mk_one mk_c) eq_same (fun H x y a b => .inl (a ▸ .non)) lst_same) ?_
  refine mk_more (mk_pair mk_nil mk_c lst_same (fun H x y a b => pair_2 (good_nil a) (.inl (b ▸ .int 3))) eq_same) ?_
  exact mk_more (mk_pair mk_c (mk_one mk_c) eq_same (fun H x y a b => .inl (a ▸ .str str_ok)) lst_same) mk_nils
theorem for_ten {K : PySem.W.Frag} {t : TA} {n : Nat} {g : TG} {tb : TS} {D : Ends} {σ : L2.St} {H : Hp} (ms : MakesAll t n) (small : n ≤ sizeLine) (k : ∀ H' vs TT, Same H H' → vs.length = n → (∀ v ∈ vs, ItemAt H' v) → H' TT = some (.tup vs) → tFor (fun σ H R => R (Itt K TT) H) g tb D σ H') : tFor (iTup K (tTup t)) g tb D σ H :=
  ms σ H _ fun H2 vs e2 len items => ⟨by rw [len]; exact small, fun TT nT => ⟨TT, rfl, ⟨_, SqT.of upd_same⟩, k _ vs TT (e2.trans (made nT)) len (fun v hv => (items v hv).ext (.of (made nT))) upd_same⟩⟩
end KT
end
section
/-! The law's refusals. -/
namespace KT
open PySem PySem.Spec PyProof.Rows L2 LamX
/-- a def whose code object is known -/
structure FunC (K : PySem.W.Frag) (x qual : Str) (st : Stmt) (f : Addr) (fd : FuncData) (cc : Addr) : Prop where
  ex : ∃ (oc : Value) (od : Option Addr) (kV doc pm : Value) (an : Option Addr) (ct : Value) (osl : Array (Option Value)),
    fd = PySem.W.fnOf x qual (defArgs st) (defBody st) (defScope st) .none kV doc pm an (.ref cc) ct ∧ K.lookup f = some ⟨oc, od, .func fd, osl⟩ ∧ PySem.W.codeIn K (.ref cc) qual = true
section
variable {P : Program} {w : World} {K : PySem.W.Frag} {mg : Str → Option Value} {base : Heap} {c : Cs}
theorem FunC.ok {x qual : Str} {st : Stmt} {f cc : Addr} {fd : FuncData} {N ps : List Str} {k : Nat} {sp : Sp} (F : FunC K x qual st f fd cc) (S : FnScope N ps (defScope st)) (len : ∀ vs H Q E, sp vs H Q E → vs.length = ps.length)
    (hbody : ∀ (A : Around) (outer : List Env) (s : Shared) (H : Hp) (vs : List V) (Q : VK) (E : XK), Room k (A.deeper (envOfC qual (defScope st) s.heap.objs.size f (.ref cc))) → sp vs H Q E →
      ∃ t, PSs (cxOf CX0 P w K mg base N qual (defScope st) f (.ref cc) A outer s H E).nox (defBody st) t ∧ t { nx := fun _ H' => Q .non H', rt := Q } (L2.start N vs) H) : FnOk P w K mg base CX0 (k + 1) f fd ps sp := by
  obtain ⟨_, _, _, _, _, _, _, _, e, lk, code⟩ := F.ex
  subst e
  exact fn_of lk code S len fun A outer s H vs Q E room told => let ⟨t, h, q⟩ := hbody A outer s H vs Q E room told; ⟨t, h.nox, q⟩
theorem ok_refd {f g cc PP fI fR fK fG : Addr} {fd fdg fdI fdR fdK fdG : FuncData} (F : FunC K "_law_refused" "_law_refused" sRefd f fd cc) (T : Txt P w K mg base c) (TB : TabB base mg cc PP)
    (F_law_is_refused : Fun K "_law_is_refused" "_law_is_refused" sIsRef g fdg) (A_law_is_refused : At K mg "_law_is_refused" g) (b_law_is_refused : L2.Binds K fdg ["deed"] [])
    (M_Times : Mk K c.times fI) (G_Times : FnOk P w K mg base CX0 3 fI fdI ["self", "front", "period"] (spTInit c)) (G_Timesx : FnOk P w K mg base (L2.CX P w) 3 fI fdI ["self", "front", "period"] (spTIx c)) (b_Times : L2.Binds K fdI ["self", "front", "period"] [])
    (A_least_rate : At K mg "least_rate" fR) (G_least_ratex : FnOk P w K mg base (L2.CX P w) 7 fR fdR ["fed", "most"] (spAskedX c)) (b_least_rate : L2.Binds K fdR ["fed", "most"] [])
    (A_least_keeping : At K mg "least_keeping" fK) (G_least_keepingx : FnOk P w K mg base (L2.CX P w) 5 fK fdK ["fed", "groups"] (spKeepX c)) (b_least_keeping : L2.Binds K fdK ["fed", "groups"] [])
    (A_greatest_lag : At K mg "greatest_lag" fG) (G_greatest_lagx : FnOk P w K mg base (L2.CX P w) 4 fG fdG ["fed", "read"] (spGLx c)) (b_greatest_lag : L2.Binds K fdG ["fed", "read"] []) :
    FnOk P w K mg base CX0 10 f fd [] (spRefd PP) := by
  refine F.ok scRefd (fun vs H Q E h => ?_) (fun A outer s H vs Q E hr h => ?_)
  · obtain ⟨rfl, _⟩ := h
    rfl
  · obtain ⟨rfl, tabs, k⟩ := h
    have nd := scRefd.nd
    have hcode : (cxOf CX0 P w K mg base nRefd "_law_refused" (defScope sRefd) f (.ref cc) A outer s H E).nox.env.code = .ref cc := rfl
    have hr_lam : Room (7 + 2) _ := hr
    have hr_Times : Room 4 _ := hr.mono (by decide)
    refine ⟨_, (pss_cons (ps_set (i := 0) nd rfl (Or.inr rfl) (pe_make M_Times G_Times hr_Times (by rfl) T.Times.g b_Times .nil pass0 (pa_cons (pe_lst pa_nil) (pa_cons (pe_lst (pa_cons pe_int pa_nil)) pa_nil))))
      (pss_cons (ps_for PassesOwn.never rfl (pi_tup (pe_tup (pa_cons (pe_tup (pa_cons (pe_lst pa_nil) (pa_cons (pe_lst pa_nil) pa_nil))) (pa_cons (pe_tup (pa_cons (pe_lst (pa_cons pe_int pa_nil)) (pa_cons (pe_lst pa_nil) pa_nil))) (pa_cons (pe_tup (pa_cons (pe_op op_rep (pe_lst (pa_cons pe_int pa_nil)) pe_int) (pa_cons (pe_lst (pa_cons pe_int pa_nil)) pa_nil))) (pa_cons (pe_tup (pa_cons (pe_lst pa_nil) (pa_cons (pe_op op_rep (pe_lst (pa_cons pe_int pa_nil)) pe_int) pa_nil))) (pa_cons (pe_tup (pa_cons (pe_lst (pa_cons pe_int pa_nil)) (pa_cons (pe_lst (pa_cons pe_int pa_nil)) pa_nil))) (pa_cons (pe_tup (pa_cons (pe_lst (pa_cons (pe_un un_neg pe_int) pa_nil)) (pa_cons (pe_lst (pa_cons pe_int pa_nil)) pa_nil))) (pa_cons (pe_tup (pa_cons (pe_lst (pa_cons pe_bl pa_nil)) (pa_cons (pe_lst (pa_cons pe_int pa_nil)) pa_nil))) (pa_cons (pe_tup (pa_cons pe_non (pa_cons (pe_lst (pa_cons pe_int pa_nil)) pa_nil))) (pa_cons (pe_tup (pa_cons (pe_lst pa_nil) (pa_cons pe_int pa_nil))) (pa_cons (pe_tup (pa_cons pe_str (pa_cons (pe_lst (pa_cons pe_int pa_nil)) pa_nil))) pa_nil)))))))))))) (pg_name (i := 1) nd rfl (Or.inr rfl))
        (pss_one (ps_if (pt_not (pt_val (lam_ref T F_law_is_refused A_law_is_refused b_law_is_refused TB hcode hr_lam (by rfl) (lamS_by (sc := defScope sRefd) (by decide +kernel)) (by rfl) (fun _ _ _ _ _ => rfl) (fun A outer s H E f c2 hrl => pe_make M_Times G_Timesx (hrl.mono (by decide)) (by rfl) T.Times.g b_Times .nil passLam (pa_cons (pe_ix (ix_tupK (K := K) rfl) (pv 1) pe_int (fun _ _ => rfl)) (pa_cons (pe_ix (ix_tupK (K := K) rfl) (pv 1) pe_int (fun _ _ => rfl)) pa_nil))))))
          (pss_one (ps_ret pe_bl))
          pss_nil)))
      (pss_cons (ps_for PassesOwn.never rfl (pi_tup (pe_tup (pa_cons (pe_un un_neg pe_int) (pa_cons pe_int (pa_cons pe_bl (pa_cons pe_non pa_nil)))))) (pg_name (i := 2) nd rfl (Or.inr rfl))
        (pss_one (ps_if (pt_not (pt_val (lam_ref T F_law_is_refused A_law_is_refused b_law_is_refused TB hcode hr_lam (by rfl) (lamS_by (sc := defScope sRefd) (by decide +kernel)) (by rfl) (fun _ _ _ _ _ => rfl) (fun A outer s H E f c2 hrl => pe_call G_least_ratex (hrl.mono (by decide)) (by rfl) A_least_rate.g A_least_rate.k b_least_rate .nil passLam (pa_cons (pv 0) (pa_cons (pv 2) pa_nil))))))
          (pss_one (ps_ret pe_bl))
          pss_nil)))
      (pss_cons (ps_if (pt_not (pt_val (lam_ref T F_law_is_refused A_law_is_refused b_law_is_refused TB hcode hr_lam (by rfl) (lamS_by (sc := defScope sRefd) (by decide +kernel)) (by rfl) (fun _ _ _ _ _ => rfl) (fun A outer s H E f c2 hrl => pe_call G_least_keepingx (hrl.mono (by decide)) (by rfl) A_least_keeping.g A_least_keeping.k b_least_keeping .nil passLam (pa_cons (pv 0) (pa_cons (pe_lst pa_nil) pa_nil))))))
        (pss_one (ps_ret pe_bl))
        pss_nil)
      (pss_cons (ps_if (pt_not (pt_val (lam_ref T F_law_is_refused A_law_is_refused b_law_is_refused TB hcode hr_lam (by rfl) (lamS_by (sc := defScope sRefd) (by decide +kernel)) (by rfl) (fun _ _ _ _ _ => rfl) (fun A outer s H E f c2 hrl => pe_call G_least_keepingx (hrl.mono (by decide)) (by rfl) A_least_keeping.g A_least_keeping.k b_least_keeping .nil passLam (pa_cons (pv 0) (pa_cons (pe_lst (pa_cons (pv 0) (pa_cons pe_non pa_nil))) pa_nil))))))
        (pss_one (ps_ret pe_bl))
        pss_nil)
      (pss_one (ps_ret (lam_ref T F_law_is_refused A_law_is_refused b_law_is_refused TB hcode hr_lam (by rfl) (lamS_by (sc := defScope sRefd) (by decide +kernel)) (by rfl) (fun _ _ _ _ _ => rfl) (fun A outer s H E f c2 hrl => pe_call G_greatest_lagx (hrl.mono (by decide)) (by rfl) A_greatest_lag.g A_greatest_lag.k b_greatest_lag .nil passLam (pa_cons (pv 0) (pa_cons (pe_lst (pa_cons pe_int pa_nil)) pa_nil))))))))))), ?_⟩
    refine into ⟨by simp, fun a na => ⟨by show 1 ≤ sizeLine; decide, fun b nb => fun x dx nx ndx ne => make_timesH (fs := []) (ps := [1]) nx ndx (made nb _ _ upd_same) upd_same (good_one (by decide) (by decide)) fun H1 e1 t1 => ?_⟩⟩
    have e0 : Same H H1 := ((made na).trans (made nb)).trans e1
    have tabs1 : Tabs [(PP, lamQ)] H1 := tabs.ext e0
    have x0 : ExtN H H1 := .of e0
    clear e1 nb na nx ndx ne
    refine into (for_ten (K := K) ten (by decide) fun H3 vs TT e3 len items3 hT => ?_)
    refine for_tup (xs := vs) (fun i σ H' => ExtN H3 H' ∧ Tabs [(PP, lamQ)] H' ∧ ∃ v : Option V, σ = [some (.ref x), v, none]) ⟨.refl H3, tabs1.ext e3, none, rfl⟩ (fun i σ H' _ h => SqT.of (h.1 _ _ hT fun _ z => nomatch z)) ?_ ?_
    · rintro i u σ H' hu ⟨eN, tb, v, rfl⟩
      obtain ⟨q, y, z, rfl, hq, pair⟩ := (items3 u (List.mem_of_getElem? hu)).ext eN
      refine ⟨tb, fun H4 e4 tb4 => ?_⟩
      have hq4 := e4 _ _ hq fun _ z => nomatch z
      have pair4 := pair.ext e4
      refine ⟨_, rfl, q, _, _, y, rfl, rfl, SqT.of hq4, atI_nat (j := 0) rfl, _, rfl, q, _, _, z, rfl, rfl, SqT.of hq4, atI_nat (j := 1) rfl, fun x' dx' nx' nd' ne' => ?_⟩
      have em : Same H4 (upd (upd H4 dx' (.own x')) x' (.ins c.times dx' [])) := fun b u z => by rw [upd_ne (ne_of_none z nx'), upd_ne (ne_of_none z nd')]; exact z
      refine ⟨x', dx', y, z, rfl, upd_same, pair4.ext (.of em), fun H5 e5 => ⟨rfl, rfl, _, rfl, iteF ⟨(eN.trans e4).trans (.of (em.trans e5)), tb4.ext (em.trans e5), some (.ref q), rfl⟩⟩⟩
    · rintro σ H4 ⟨e4, tb4, v, rfl⟩
      have t4 : TimesAt c.times H4 x [] [1] := (t1.same e3).ext e4
      have x4 : ExtN H H4 := (x0.trans (.of e3)).trans e4
      refine into ⟨1, rfl, by show 4 ≤ sizeLine; decide, fun MM nM => ⟨MM, rfl, ⟨_, SqT.of upd_same⟩, ?_⟩⟩
      have e5 : Same H4 (upd H4 MM (.tup [.int (-1), .int 1001, .bl true, .non])) := made nM
      have hM : (upd H4 MM (.tup [.int (-1), .int 1001, .bl true, .non])) MM = some (.tup [.int (-1), .int 1001, .bl true, .non]) := upd_same
      have t5 := t4.same e5
      have x5 := x4.trans (.of e5)
      have tb5 := tb4.ext e5
      generalize upd H4 MM (.tup [.int (-1), .int 1001, .bl true, .non]) = H5 at hM t5 x5 tb5
      clear e5 nM t4 x4 tb4 e4 hT items3 e3 t1 tabs1 x0 e0
      refine for_tup (xs := [.int (-1), .int 1001, .bl true, .non]) (fun i σ H' => ExtN H5 H' ∧ Tabs [(PP, lamQ)] H' ∧ ∃ m : Option V, σ = [some (.ref x), v, m]) ⟨.refl H5, tb5, none, rfl⟩ (fun i σ H' _ h => SqT.of (h.1 _ _ hM fun _ z => nomatch z)) ?_ ?_
      · rintro i u σ H' hu ⟨eN, tb, m, rfl⟩
        have bad : BadM u := by
          match i, hu with
          | 0, hu => cases hu; exact ⟨.inr (.inr ⟨_, rfl⟩), fun z => by cases z⟩
          | 1, hu => cases hu; exact ⟨.inr (.inr ⟨_, rfl⟩), fun z => ⟨_, rfl, by decide⟩⟩
          | 2, hu => cases hu; exact ⟨.inr (.inl ⟨_, rfl⟩), fun z => by cases z⟩
          | 3, hu => cases hu; exact ⟨.inl rfl, fun z => by cases z⟩
        exact ⟨tb, fun H6 e6 tb6 => ⟨_, rfl, _, rfl, x, [], [1], u, rfl, (t5.ext eN).ext e6, bad, rfl, rfl, _, rfl, iteF ⟨eN.trans e6, tb6, some u, rfl⟩⟩⟩
      · rintro σ H6 ⟨e6, tb6, m, rfl⟩
        refine into ⟨tb6, fun H7 e7 tb7 => ⟨_, rfl, Nat.zero_le _, fun l nl => ⟨x, l, [], [1], rfl, ((t5.ext e6).ext e7).same (made nl), .inl upd_same, fun H8 e8 => ⟨rfl, rfl, _, rfl, iteF ?_⟩⟩⟩⟩
        have s8 : Same H7 H8 := (made nl).trans e8
        have t8 := ((t5.ext e6).ext e7).same s8
        have x8 := ((x5.trans e6).trans e7).trans (.of s8)
        have tb8 := tb7.ext s8
        try unfold tNext
        dsimp only
        refine into ⟨tb8, fun H9 e9 tb9 => ⟨_, rfl, _, rfl, by show 2 ≤ sizeLine; decide, fun l2 nl2 => ⟨x, l2, [], [1], rfl, (t8.ext e9).same (made nl2), .inr ⟨x, [], [1], upd_same, (t8.ext e9).same (made nl2)⟩, fun H10 e10 => ⟨rfl, rfl, _, rfl, iteF ?_⟩⟩⟩⟩
        have s10 : Same H9 H10 := (made nl2).trans e10
        have t10 := (t8.ext e9).same s10
        have x10 := (x8.trans e9).trans (.of s10)
        have tb10 := tb9.ext s10
        try unfold tNext
        dsimp only
        exact ⟨tb10, fun H11 e11 tb11 => ⟨_, rfl, by show 1 ≤ sizeLine; decide, fun l3 nl3 => ⟨x, [], [1], .ref l3, rfl, (t10.ext e11).same (made nl3), .inr ⟨l3, _, rfl, upd_same⟩, rfl, rfl, k _ ((x10.trans e11).trans (.of (made nl3)))⟩⟩⟩
end
end KT
end
section
/-! The law: what is drawn. -/
namespace KT
open PySem L2 LamX
/-- a drawn row pair -/
structure Sm (f p : List Int) : Prop where
  ne : p ≠ []
  few : f.length ≤ 4
  few' : p.length ≤ 4
  low : ∀ x ∈ f ++ p, 0 ≤ x
  high : ∀ x ∈ f ++ p, x ≤ 9
theorem Sm.good {f p : List Int} (h : Sm f p) : Good f p := ⟨h.ne, by have := h.few; omega, by have := h.few'; omega, h.low, fun x hx => Int.le_trans (h.high x hx) (by decide)⟩
theorem Sm.of {f p : List Int} {m n : Int} (a : f.length ≤ 4) (b : p ≠ []) (b' : p.length ≤ 4) (lf : ∀ x ∈ f, 0 ≤ x) (hf : ∀ x ∈ f, x ≤ m) (lp : ∀ x ∈ p, 0 ≤ x) (hp : ∀ x ∈ p, x ≤ n) (hm : m ≤ 9) (hn : n ≤ 9) : Sm f p :=
  ⟨b, a, b', fun x h => (List.mem_append.mp h).elim (lf x) (lp x), fun x h => (List.mem_append.mp h).elim (fun h => Int.le_trans (hf x h) hm) fun h => Int.le_trans (hp x h) hn⟩
theorem Tabs.off {T : List (Addr × Str)} {H H' : Hp} {d a : Addr} (D : DrawAt H d a) (t : Tabs T H) (o : Off d H H') : Tabs T H' := fun p hp => by
  obtain ⟨k, hd⟩ := D
  obtain ⟨ps, h1, h2, h3⟩ := t p hp
  refine ⟨ps, o _ _ h1 (fun e => by rw [e, hd] at h1; cases h1), h2, fun pos cv hc => ?_⟩
  obtain ⟨c, e1, e2⟩ := h3 pos cv hc
  exact ⟨c, e1, o _ _ e2 fun e => by rw [e, hd] at e2; unfold CodeO at e2; cases e2⟩
theorem refs_ne_draw {as : List Addr} {a : Addr} {k : Int} : ¬ (as.map V.ref : List V) = [.ref a, .int k] := by
  cases as with
  | nil => simp
  | cons n ns => cases ns with
    | nil => simp
    | cons m ms => simp
theorem refs_off {H H' : Hp} {d a l : Addr} {as : List Addr} (D : DrawAt H d a) (o : Off d H H') (h : H l = some (.lst (as.map V.ref))) : H' l = some (.lst (as.map V.ref)) := by
  obtain ⟨k, hd⟩ := D
  refine o _ _ h fun e => ?_
  rw [e, hd] at h
  exact refs_ne_draw (HO.lst.inj (Option.some.inj h)).symm
/-- what the law has drawn -/
structure Bas (K : PySem.W.Frag) (c : Cs) (H : Hp) (PP a DR FD RD p GR : Addr) (ns ff fp : List Int) (as ts : List Addr) (gs : Gs) : Prop where
  draw : DrawAt H DR a
  script : SqL K H a (ns.map V.int)
  short : ns.length ≤ 63
  fed : PairAt H FD ff fp
  told : TimesAt c.times H p ff fp
  reads : H RD = some (.lst (as.map V.ref))
  len : as.length = gs.length
  rd : ∀ (i : Nat) (b : Addr) (g : List Int × List Int), as[i]? = some b → gs[i]? = some g → PairAt H b g.1 g.2
  groups : H GR = some (.lst (ts.map V.ref))
  at_ : GroupsAt c H ts gs
  sm : Sm ff fp
  sms : ∀ (i : Nat) (g : List Int × List Int), gs[i]? = some g → Sm g.1 g.2
  pos : 0 < gs.length
  few : gs.length ≤ 3
  tabs : Tabs [(PP, lamQ)] H
theorem Bas.same {K : PySem.W.Frag} {c : Cs} {H H' : Hp} {PP a DR FD RD p GR : Addr} {ns ff fp : List Int} {as ts : List Addr} {gs : Gs} (b : Bas K c H PP a DR FD RD p GR ns ff fp as ts gs) (e : Same H H') : Bas K c H' PP a DR FD RD p GR ns ff fp as ts gs :=
  ⟨b.draw.same e, e.seq b.script, b.short, b.fed.same e, b.told.same e, e _ _ b.reads, b.len, fun i x g h1 h2 => (b.rd i x g h1 h2).same e, e _ _ b.groups, b.at_.same e, b.sm, b.sms, b.pos, b.few, b.tabs.ext e⟩
theorem Bas.off {K : PySem.W.Frag} {c : Cs} {H H' : Hp} {PP a DR FD RD p GR : Addr} {ns ff fp : List Int} {as ts : List Addr} {gs : Gs} (b : Bas K c H PP a DR FD RD p GR ns ff fp as ts gs) (o : Off DR H H') (d : DrawAt H' DR a) : Bas K c H' PP a DR FD RD p GR ns ff fp as ts gs :=
  ⟨d, script_off b.draw o b.script, b.short, b.fed.off b.draw o, b.told.off b.draw o, refs_off b.draw o b.reads, b.len, fun i x g h1 h2 => (b.rd i x g h1 h2).off b.draw o, refs_off b.draw o b.groups, ⟨b.at_.len, fun i x g h1 h2 => ⟨(b.at_.at_ i x g h1 h2).1.off b.draw o, (b.at_.at_ i x g h1 h2).2⟩⟩, b.sm, b.sms, b.pos, b.few, Tabs.off b.draw b.tabs o⟩
def spLaw (K : PySem.W.Frag) (PP : Addr) : Sp := fun vs H Q _ => ∃ (a : Addr) (ns : List Int), vs = [.ref a] ∧ SqL K H a (ns.map V.int) ∧ ns.length ≤ 63 ∧ Tabs [(PP, lamQ)] H ∧ ∀ H', Q (.bl true) H'
abbrev sLaw : Stmt := top 46
abbrev nLaw : List Str := ["script", "draw", "fed", "reads", "read", "told", "groups", "tick", "many", "starts", "firsts", "times", "ahead", "behind", "period", "growth", "found", "rows", "group", "turn", "one", "number"]
theorem scLaw : FnScope nLaw ["script"] (defScope sLaw) := ⟨rfl, rfl, rfl, by decide +kernel, rfl, by decide +kernel, by decide +kernel⟩
/-- where the law stands -/
abbrev lawX (P : Program) (w : World) (K : PySem.W.Frag) (mg : Str → Option Value) (base : Heap) (f : Addr) (cdv : Value) (A : Around) (outer : List Env) (s : Shared) (H0 : Hp) (E : XK) : Cx := (cxOf CX0 P w K mg base nLaw "law" (defScope sLaw) f cdv A outer s H0 E).nox
/-- the state behind what is drawn -/
def LawS (K : PySem.W.Frag) (c : Cs) (PP : Addr) (σ : L2.St) (H : Hp) : Prop :=
  ∃ (a DR FD RD p GR : Addr) (ns ff fp : List Int) (as ts : List Addr) (gs : Gs) (s0 s4 s7 s8 s9 s10 s11 s12 s13 s14 s15 s16 s17 s18 s19 s20 s21 : Option V),
    σ = [s0, some (.ref DR), some (.ref FD), some (.ref RD), s4, some (.ref p), some (.ref GR), s7, s8, s9, s10, s11, s12, s13, s14, s15, s16, s17, s18, s19, s20, s21] ∧ Bas K c H PP a DR FD RD p GR ns ff fp as ts gs
section
variable {P : Program} {w : World} {K : PySem.W.Frag} {mg : Str → Option Value} {base : Heap} {c : Cs} {f : Addr} {cdv : Value} {A : Around} {outer : List Env} {s : Shared} {H0 : Hp} {E : XK}
/-- pairs drawn so far; their rows are not the list that they are put into -/
def PairX (L : Addr) (H : Hp) (b : Addr) (g : List Int × List Int) : Prop := ∃ f p, H b = some (.tup [.ref f, .ref p]) ∧ f ≠ L ∧ p ≠ L ∧ H f = some (.lst (g.1.map V.int)) ∧ H p = some (.lst (g.2.map V.int))
def Pairs (H0 H : Hp) (d a L : Addr) (j : Nat) : Prop := ∃ (as : List Addr) (gs : Gs), H L = some (.lst (as.map V.ref)) ∧ as.length = j ∧ gs.length = j ∧ (∀ (i : Nat) (b : Addr) (g : List Int × List Int), as[i]? = some b → gs[i]? = some g → PairX L H b g) ∧ (∀ (i : Nat) (g : List Int × List Int), gs[i]? = some g → Sm g.1 g.2) ∧ Off d H0 H ∧ DrawAt H d a
theorem PairX.off {L b d a : Addr} {H H' : Hp} {g : List Int × List Int} (D : DrawAt H d a) (h : PairX L H b g) (o : Off d H H') : PairX L H' b g := by
  obtain ⟨f, p, h1, n1, n2, h2, h3⟩ := h
  obtain ⟨k, hd⟩ := id D
  exact ⟨f, p, o _ _ h1 (fun e => by rw [e, hd] at h1; cases h1), n1, n2, o _ _ h2 (draw_ne D h2), o _ _ h3 (draw_ne D h3)⟩
theorem PairX.put {L b : Addr} {H : Hp} {g : List Int × List Int} {xs ys : List V} (hL : H L = some (.lst xs)) (h : PairX L H b g) : PairX L (upd H L (.lst ys)) b g := by
  obtain ⟨f, p, h1, n1, n2, h2, h3⟩ := h
  exact ⟨f, p, by rw [upd_ne (fun e => by rw [e, hL] at h1; cases h1)]; exact h1, n1, n2, by rw [upd_ne n1]; exact h2, by rw [upd_ne n2]; exact h3⟩
theorem Pairs.start {H : Hp} {d a D : Addr} (h : DrawAt H d a) (hD : H D = none) : Pairs H (upd H D (.lst [])) d a D 0 := ⟨[], [], upd_same, rfl, rfl, (fun i b g z => nomatch (show (none : Option Addr) = some b from z)), (fun i g z => nomatch (show (none : Option (List Int × List Int)) = some g from z)), Off.same (made hD), h.same (made hD)⟩
theorem Pairs.more {H0 H H2 : Hp} {d a L b : Addr} {j : Nat} {fs ps : List Int} (R : Pairs H0 H d a L j) (nL : H0 L = none) (o : Off d H H2) (dr : DrawAt H2 d a) (pr : PairX L H2 b (fs, ps)) (sm : Sm fs ps) (small : j < 100) :
    ∃ acc, H2 L = some (.lst acc) ∧ acc.length < sizeLine ∧ Pairs H0 (upd H2 L (.lst (acc ++ [.ref b]))) d a L (j + 1) := by
  obtain ⟨as, gs, hL, l1, l2, at1, sms, oo, dd⟩ := R
  have hL2 := refs_off dd o hL
  refine ⟨_, hL2, by rw [List.length_map, l1, sizeLine_eq]; omega, as ++ [b], gs ++ [(fs, ps)], by rw [upd_same, List.map_append]; rfl, by rw [List.length_append, l1]; rfl, by rw [List.length_append, l2]; rfl, fun i x g h1 h2 => ?_, fun i g h2 => ?_, fun x u z n => ?_, ?_⟩
  · rcases Nat.lt_or_ge i j with h | h
    · rw [List.getElem?_append_left (by omega)] at h1 h2
      exact ((at1 i x g h1 h2).off dd o).put hL2
    · have e : i = j := by
        have := (List.getElem?_eq_some_iff.mp h1).1
        rw [List.length_append] at this
        simp at this; omega
      subst e
      rw [List.getElem?_append_right (by omega), l1, Nat.sub_self] at h1
      rw [List.getElem?_append_right (by omega), l2, Nat.sub_self] at h2
      cases h1; cases h2
      exact pr.put hL2
  · rcases Nat.lt_or_ge i j with h | h
    · rw [List.getElem?_append_left (by omega)] at h2
      exact sms i g h2
    · have e : i = j := by
        have := (List.getElem?_eq_some_iff.mp h2).1
        rw [List.length_append] at this
        simp at this; omega
      subst e
      rw [List.getElem?_append_right (by omega), l2, Nat.sub_self] at h2
      cases h2; exact sm
  · rw [upd_ne (ne_of_none z nL)]; exact o _ _ (oo _ _ z n) n
  · obtain ⟨k, hk⟩ := dr
    refine ⟨k, ?_⟩
    rw [upd_ne (fun e => ?_)]
    · exact hk
    · rw [e, hL2] at hk
      exact refs_ne_draw (HO.lst.inj (Option.some.inj hk))
/-- timetables made so far -/
def Made (c : Cs) (H0 H : Hp) (L : Addr) (gs : Gs) (j : Nat) : Prop := ∃ ts : List Addr, H L = some (.lst (ts.map V.ref)) ∧ ts.length = j ∧ Same H0 H ∧ ∀ (i : Nat) (b : Addr) (g : List Int × List Int), ts[i]? = some b → gs[i]? = some g → ∃ dx x y, x ≠ L ∧ y ≠ L ∧ H b = some (.ins c.times dx (tF x y)) ∧ H x = some (.lst (g.1.map V.int)) ∧ H y = some (.lst (g.2.map V.int))
set_option maxHeartbeats 1000000 in
theorem law_A {PP a fT fR fI : Addr} {fdT fdR fdI : FuncData} {ns : List Int} (T : Txt P w K mg base c) (A_law_take : At K mg "_law_take" fT) (G_law_take : FnOk P w K mg base CX0 2 fT fdT ["draw", "many"] (spTake K)) (b_law_take : Binds K fdT ["draw", "many"] [])
    (A_law_row : At K mg "_law_row" fR) (G_law_row : FnOk P w K mg base CX0 3 fR fdR ["draw", "many", "most"] (spRow K)) (b_law_row : Binds K fdR ["draw", "many", "most"] [])
    (M_Times : Mk K c.times fI) (G_Times : FnOk P w K mg base CX0 3 fI fdI ["self", "front", "period"] (spTInit c)) (b_Times : Binds K fdI ["self", "front", "period"] [])
    (hr : Room 10 (lawX P w K mg base f cdv A outer s H0 E).A)
    (rest : ∃ t, PSs (lawX P w K mg base f cdv A outer s H0 E) ((defBody sLaw).drop 4) t ∧ ∀ σ H D, LawS K c PP σ H → (∀ H', D.rt (.bl true) H') → t D σ H) :
    ∃ t, PSs (lawX P w K mg base f cdv A outer s H0 E) (defBody sLaw) t ∧ ∀ H D, SqL K H a (ns.map V.int) → ns.length ≤ 63 → Tabs [(PP, lamQ)] H → (∀ H', D.rt (.bl true) H') → t D [some (.ref a), none, none, none, none, none, none, none, none, none, none, none, none, none, none, none, none, none, none, none, none, none] H := by
  have nd := scLaw.nd
  have hr_law_take : Room 2 _ := hr.mono (by decide)
  have hr_law_row : Room 3 _ := hr.mono (by decide)
  have hr_Times : Room 4 _ := hr.mono (by decide)
  obtain ⟨tR, hR, restR⟩ := rest
  refine ⟨_, (pss_cons (ps_set (i := 1) nd rfl (Or.inr rfl) (pe_lst (pa_cons (pv 0) (pa_cons pe_int pa_nil))))
      (pss_cons (ps_set (i := 2) nd rfl (Or.inr rfl) (pe_tup (pa_cons (pe_call G_law_row hr_law_row (by rfl) A_law_row.g A_law_row.k b_law_row .nil pass0 (pa_cons (pv 1) (pa_cons (pe_call G_law_take hr_law_take (by rfl) A_law_take.g A_law_take.k b_law_take .nil pass0 (pa_cons (pv 1) (pa_cons pe_int pa_nil))) (pa_cons pe_int pa_nil)))) (pa_cons (pe_call G_law_row hr_law_row (by rfl) A_law_row.g A_law_row.k b_law_row .nil pass0 (pa_cons (pv 1) (pa_cons (pe_op op_add pe_int (pe_call G_law_take hr_law_take (by rfl) A_law_take.g A_law_take.k b_law_take .nil pass0 (pa_cons (pv 1) (pa_cons pe_int pa_nil)))) (pa_cons pe_int pa_nil)))) pa_nil))))
      (pss_cons (ps_setLc (i := 3) (own := [("turn", 19)]) (by rfl) nd rfl rfl (sw_true rfl rfl rfl (by decide +kernel)) (pi_range1 (by rfl) T.range (pa_cons (pe_op op_add pe_int (pe_call G_law_take hr_law_take (by rfl) A_law_take.g A_law_take.k b_law_take .nil pass0 (pa_cons (pv 1) (pa_cons pe_int pa_nil)))) pa_nil)) (blkOk_by (N := nLaw) (sc := defScope sLaw) (by decide +kernel)) (fun _ _ _ _ _ => (pg_name (i := 19) nd rfl (Or.inl rfl))) (fun _ _ _ _ _ => pts_nil) (fun _ _ _ _ _ => (pe_tup (pa_cons (pe_call G_law_row hr_law_row (by rfl) A_law_row.g A_law_row.k b_law_row .nil pass0 (pa_cons (pv 1) (pa_cons (pe_call G_law_take hr_law_take (by rfl) A_law_take.g A_law_take.k b_law_take .nil pass0 (pa_cons (pv 1) (pa_cons pe_int pa_nil))) (pa_cons pe_int pa_nil)))) (pa_cons (pe_call G_law_row hr_law_row (by rfl) A_law_row.g A_law_row.k b_law_row .nil pass0 (pa_cons (pv 1) (pa_cons (pe_op op_add pe_int (pe_call G_law_take hr_law_take (by rfl) A_law_take.g A_law_take.k b_law_take .nil pass0 (pa_cons (pv 1) (pa_cons pe_int pa_nil)))) (pa_cons pe_int pa_nil)))) pa_nil)))))
      (pss_cons (ps_par (i := 5) (j := 6) (by rfl) nd rfl rfl (by decide) rfl rfl (pa_cons (pe_make M_Times G_Times hr_Times (by rfl) T.Times.g b_Times .nil pass0 (pa_cons (pe_ix ix_tup (pv 2) pe_int (fun _ _ => rfl)) (pa_cons (pe_ix ix_tup (pv 2) pe_int (fun _ _ => rfl)) pa_nil))) (pa_cons (pe_lc (own := [("read", 4)]) (by rfl) nd (pi_list (pv 3)) (blkOk_by (N := nLaw) (sc := defScope sLaw) (by decide +kernel)) (fun _ _ _ _ _ => (pg_name (i := 4) nd rfl (Or.inl rfl))) (fun _ _ _ _ _ => pts_nil) (fun _ _ _ _ _ => (pe_make M_Times G_Times hr_Times (by rfl) T.Times.g b_Times .nil pass0 (pa_cons (pe_ix (ix_tupK (K := K) rfl) (pv 4) pe_int (fun _ _ => rfl)) (pa_cons (pe_ix (ix_tupK (K := K) rfl) (pv 4) pe_int (fun _ _ => rfl)) pa_nil))))) pa_nil)) (by rfl))
      hR)))), ?_⟩
  intro H D hS few tabs k
  refine into ⟨_, rfl, by show 2 ≤ sizeLine; decide, fun d nd1 => ?_⟩
  have e1 : Same H (upd H d (.lst [.ref a, .int 0])) := made nd1
  have D1 : DrawAt (upd H d (.lst [.ref a, .int 0])) d a := ⟨0, upd_same⟩
  have hS1 := e1.seq hS
  have tabs1 := tabs.ext e1
  generalize upd H d (.lst [.ref a, .int 0]) = H1 at e1 D1 hS1 tabs1
  refine into ⟨_, rfl, _, rfl, d, a, ns, 5, rfl, D1, hS1, few, by decide, fun H2 r1 o2 D2 r0 r5 => ?_⟩
  refine ⟨d, a, ns, r1, 9, rfl, D2, script_off D1 o2 hS1, few, r0, by omega, by decide, fun H3 l1 xs o3 D3 n3 h3 len3 lo3 hi3 => ?_⟩
  have o13 := o2.trans o3
  refine ⟨_, rfl, _, rfl, d, a, ns, 4, rfl, D3, script_off D1 o13 hS1, few, by decide, fun H4 r2 o4 D4 q0 q4 => ?_⟩
  refine ⟨_, _, rfl, rfl, d, a, ns, 1 + r2, 5, rfl, D4, script_off D1 (o13.trans o4) hS1, few, by omega, by omega, by decide, fun H5 l2 ys o5 D5 n5 h5 len5 lo5 hi5 => ⟨by show 2 ≤ sizeLine; decide, fun FD nFD => ?_⟩⟩
  have o15 := (o13.trans o4).trans o5
  have h35 := o5 _ _ (o4 _ _ h3 (draw_ne D3 h3)) (draw_ne D4 (o4 _ _ h3 (draw_ne D3 h3)))
  have smF : Sm xs ys := Sm.of (by rw [len3]; omega) (fun z => by rw [z] at len5; simp at len5; omega) (by rw [len5]; omega) lo3 hi3 lo5 hi5 (by decide) (by decide)
  have e6 : Same H5 (upd H5 FD (.tup [.ref l1, .ref l2])) := made nFD
  have fed6 : PairAt (upd H5 FD (.tup [.ref l1, .ref l2])) FD xs ys := ⟨l1, l2, upd_same, e6 _ _ h35, e6 _ _ h5⟩
  have D6 := D5.same e6
  have hS6 := e6.seq (script_off D1 o15 hS1)
  have tabs6 := (Tabs.off D1 tabs1 o15).ext e6
  generalize upd H5 FD (.tup [.ref l1, .ref l2]) = H6 at e6 fed6 D6 hS6 tabs6
  clear h35 h3 h5 o15 o13 o2 o3 o4 o5 D1 D2 D3 D4 D5 hS1 e1 e6 nFD nd1 n3 n5 tabs1
  refine into ⟨_, rfl, d, a, ns, 3, rfl, D6, hS6, few, by decide, fun H7 r3 o7 D7 s0 s3 => ⟨_, _, rfl, rfl, ?_⟩⟩
  have hS7 := script_off D6 o7 hS6
  refine ⟨_, rfl, by omega, by omega, fun L nL => lc_range (lo := 0) (n := (1 + r3).toNat) (fun j H' => Pairs H7 H' d a L j) (Pairs.start D7 nL) ?_ ?_⟩
  · rintro j H' hj R
    obtain ⟨as, gs, hL, la, lg, at1, sms, oo, dd⟩ := id R
    have hS' := script_off D7 oo hS7
    refine ⟨rfl, _, rfl, _, rfl, d, a, ns, 4, rfl, dd, hS', few, by decide, fun G1 u1 p1 E1 v0 v4 => ?_⟩
    refine ⟨d, a, ns, u1, 6, rfl, E1, script_off dd p1 hS', few, v0, by omega, by decide, fun G2 m1 us p2 E2 w2 g2 len2 lo2 hi2 => ?_⟩
    have p02 := p1.trans p2
    refine ⟨_, rfl, _, rfl, d, a, ns, 4, rfl, E2, script_off dd p02 hS', few, by decide, fun G3 u2 p3 E3 x0 x4 => ⟨_, _, rfl, rfl, ?_⟩⟩
    refine ⟨d, a, ns, 1 + u2, 7, rfl, E3, script_off dd (p02.trans p3) hS', few, by omega, by omega, by decide, fun G4 m2 zs p4 E4 w4 g4 len4 lo4 hi4 => ⟨by show 2 ≤ sizeLine; decide, fun q nq => ?_⟩⟩
    have p04 := (p02.trans p3).trans p4
    have g24 := p4 _ _ (p3 _ _ g2 (draw_ne E2 g2)) (draw_ne E3 (p3 _ _ g2 (draw_ne E2 g2)))
    have smP : Sm us zs := Sm.of (by rw [len2]; omega) (fun z => by rw [z] at len4; simp at len4; omega) (by rw [len4]; omega) lo2 hi2 lo4 hi4 (by decide) (by decide)
    have eq : Same G4 (upd G4 q (.tup [.ref m1, .ref m2])) := made nq
    have l1 := p1 _ _ hL (fun e => by obtain ⟨k, hk⟩ := dd; rw [e, hk] at hL; exact refs_ne_draw (HO.lst.inj (Option.some.inj hL)).symm)
    have n1 : m1 ≠ L := fun e => by rw [e, l1] at w2; cases w2
    have l3 := refs_off E2 p3 (refs_off E1 p2 l1)
    have n2 : m2 ≠ L := fun e => by rw [e, l3] at w4; cases w4
    exact R.more nL (p04.trans (.same eq)) (E4.same eq) ⟨m1, m2, upd_same, n1, n2, eq _ _ g24, eq _ _ g4⟩ smP (by omega)
  · rintro H8 ⟨as, gs, hL, la, lg, at1, sms, o8, D8⟩
    have fed8 := (fed6.off D6 o7).off D7 o8
    have hS8 := script_off D7 o8 hS7
    have tabs8 := Tabs.off D7 (Tabs.off D6 tabs6 o7) o8
    obtain ⟨fa, fb, t1, t2, t3⟩ := fed8.ex
    dsimp only
    refine into ⟨_, rfl, FD, _, _, .ref fa, rfl, rfl, SqT.of t1, atI_nat (j := 0) rfl, _, rfl, FD, _, _, .ref fb, rfl, rfl, SqT.of t1, atI_nat (j := 1) rfl, fun x dx nx ndx ne => make_timesH nx ndx t2 t3 smF.good fun H9 e9 told9 => ?_⟩
    have hL9 := e9 _ _ hL
    refine ⟨_, rfl, L, rfl, ⟨_, SqL.of hL9⟩, fun M nM => lc_list (K := K) (a := L) (xs := as.map V.ref) (fun i H' => Made c H9 H' M gs i) ⟨[], upd_same, rfl, made nM, fun i b g z => nomatch (show (none : Option Addr) = some b from z)⟩ (fun i H' _ ⟨_, _, _, e, _⟩ => SqL.of (e _ _ hL9)) ?_ ?_⟩
    · rintro i u H' hu ⟨ts, hM, lt, e, inf⟩
      obtain ⟨b, hb, rfl⟩ := ref_at hu
      have li : i < gs.length := by rw [lg, ← la]; exact (List.getElem?_eq_some_iff.mp hb).1
      have hg : gs[i]? = some gs[i] := List.getElem?_eq_getElem li
      obtain ⟨f1, p1, h1, _, _, h2, h3⟩ := at1 i b gs[i] hb hg
      have h1 := e _ _ (e9 _ _ h1)
      have h2 := e _ _ (e9 _ _ h2)
      have h3 := e _ _ (e9 _ _ h3)
      refine ⟨rfl, _, rfl, b, _, _, .ref f1, rfl, rfl, SqT.of h1, atI_nat (j := 0) rfl, _, rfl, b, _, _, .ref p1, rfl, rfl, SqT.of h1, atI_nat (j := 1) rfl, fun x' dx' nx' ndx' ne' => make_timesX nx' ndx' h2 h3 (sms i _ hg).good fun G dx2 a2 b2 eG hx ha hb na nb => ?_⟩
      have hM2 := eG _ _ hM
      have na2 : a2 ≠ M := fun z => by rw [z, hM] at na; cases na
      have nb2 : b2 ≠ M := fun z => by rw [z, hM] at nb; cases nb
      refine ⟨_, hM2, by rw [List.length_map, lt, sizeLine_eq]; omega, ts ++ [x'], by rw [upd_same, List.map_append]; rfl, by rw [List.length_append, lt]; rfl, put_in (e.trans eG) nM, fun i' b' g' q1 q2 => ?_⟩
      rcases Nat.lt_or_ge i' i with h | h
      · rw [List.getElem?_append_left (by omega)] at q1
        obtain ⟨dx3, y1, y2, z1, z2, z3, z4, z5⟩ := inf i' b' g' q1 q2
        refine ⟨dx3, y1, y2, z1, z2, ?_, ?_, ?_⟩
        · have := eG _ _ z3
          rw [upd_ne (fun z => by rw [z, hM2] at this; cases this)]; exact this
        · rw [upd_ne z1]; exact eG _ _ z4
        · rw [upd_ne z2]; exact eG _ _ z5
      · have e' : i' = i := by
          have := (List.getElem?_eq_some_iff.mp q1).1
          rw [List.length_append] at this
          simp at this; omega
        subst e'
        rw [List.getElem?_append_right (by omega), lt, Nat.sub_self] at q1
        cases q1
        rw [hg] at q2
        cases q2
        exact ⟨dx2, a2, b2, na2, nb2, by rw [upd_ne (fun z => by rw [z, hM2] at hx; cases hx)]; exact hx, by rw [upd_ne na2]; exact ha, by rw [upd_ne nb2]; exact hb⟩
    · rintro H10 ⟨ts, hM, lt, e10, inf⟩
      have e910 := e9.trans e10
      rw [List.length_map] at lt
      exact ⟨_, _, rfl, restR _ _ _ ⟨a, d, FD, L, x, M, ns, xs, ys, as, ts, gs, _, _, _, _, _, _, _, _, _, _, _, _, _, _, _, _, _, rfl, ⟨D8.same e910, e910.seq hS8, few, fed8.same e910, told9.same e10, e10 _ _ hL9, by omega, fun i b g q1 q2 => (by
          obtain ⟨f1, p1, h1, _, _, h2, h3⟩ := at1 i b g q1 q2
          exact ⟨f1, p1, e910 _ _ h1, e910 _ _ h2, e910 _ _ h3⟩), hM, ⟨by omega, fun i b g q1 q2 => ⟨(by
          obtain ⟨dx3, y1, y2, _, _, z3, z4, z5⟩ := inf i b g q1 q2
          exact ⟨dx3, y1, y2, z3, z4, z5⟩), (sms i g q2).good⟩⟩, smF, sms, by omega, by omega, tabs8.ext e910⟩⟩ k⟩
end
end KT
end
section
/-! The law: numbers of ticks. -/
namespace KT
open PySem L2 LamX
theorem sum_row (g : Nat → Int) : ∀ n : Nat, ((List.range n).map g).sum = sumW g 0 n
  | 0 => rfl
  | n + 1 => by
    rw [List.range_succ, List.map_append, List.sum_append, sum_row g n]
    show sumW g 0 n + _ = sumW g 0 n + g (0 + n)
    simp
section
variable {P : Program} {w : World} {K : PySem.W.Frag} {mg : Str → Option Value} {base : Heap} {c : Cs} {f : Addr} {cdv : Value} {A : Around} {outer : List Env} {s : Shared} {H0 : Hp} {E : XK}
set_option maxHeartbeats 1000000 in
theorem law_B {PP fT fL fA fU : Addr} {fdT fdL fdA fdU : FuncData} (T : Txt P w K mg base c) (A_law_take : At K mg "_law_take" fT) (G_law_take : FnOk P w K mg base CX0 2 fT fdT ["draw", "many"] (spTake K)) (b_law_take : Binds K fdT ["draw", "many"] [])
    (A_law_at : At K mg "_law_at" fL) (G_law_at : FnOk P w K mg base CX0 1 fL fdL ["front", "period", "tick"] spLAt) (b_law_at : Binds K fdL ["front", "period", "tick"] [])
    (M_at : Meth K c.times "at" fA) (G_at : FnOk P w K mg base CX0 2 fA fdA ["self", "tick"] (spAt c)) (b_at : Binds K fdA ["self", "tick"] [])
    (M_up_to : Meth K c.times "up_to" fU) (G_up_to : FnOk P w K mg base CX0 1 fU fdU ["self", "tick"] (spUpTo c)) (b_up_to : Binds K fdU ["self", "tick"] [])
    (hr : Room 10 (lawX P w K mg base f cdv A outer s H0 E).A)
    (rest : ∃ t, PSs (lawX P w K mg base f cdv A outer s H0 E) ((defBody sLaw).drop 5) t ∧ ∀ σ H D, LawS K c PP σ H → (∀ H', D.rt (.bl true) H') → t D σ H) :
    ∃ t, PSs (lawX P w K mg base f cdv A outer s H0 E) ((defBody sLaw).drop 4) t ∧ ∀ σ H D, LawS K c PP σ H → (∀ H', D.rt (.bl true) H') → t D σ H := by
  have nd := scLaw.nd
  have hr_law_take : Room 2 _ := hr.mono (by decide)
  have hr_law_at : Room 1 _ := hr.mono (by decide)
  have hr_at : Room 2 _ := hr.mono (by decide)
  have hr_up_to : Room 1 _ := hr.mono (by decide)
  obtain ⟨tR, hR, restR⟩ := rest
  refine ⟨_, (pss_cons (ps_for PassesOwn.never rfl (pi_tup (pe_tup (pa_cons pe_int (pa_cons pe_int (pa_cons pe_int (pa_cons (pe_op op_add (pe_op op_pow pe_int pe_int) (pe_call G_law_take hr_law_take (by rfl) A_law_take.g A_law_take.k b_law_take .nil pass0 (pa_cons (pv 1) (pa_cons pe_int pa_nil)))) pa_nil)))))) (pg_name (i := 7) nd rfl (Or.inr rfl))
        (pss_cons (ps_if (pt_cmpR op_ne (pe_meth (pv 5) T.Times.cl M_at G_at hr_at b_at .nil pass0 (pa_cons (pv 7) pa_nil)) (pe_call G_law_at hr_law_at (by rfl) A_law_at.g A_law_at.k b_law_at .nil pass0 (pa_cons (pe_ix ix_tup (pv 2) pe_int (fun _ _ => rfl)) (pa_cons (pe_ix ix_tup (pv 2) pe_int (fun _ _ => rfl)) (pa_cons (pv 7) pa_nil)))) (nomark _))
          (pss_one (ps_ret pe_bl))
          pss_nil)
        (pss_one (ps_if (PW.pt (pw_and (pt_cmpR op_lt (pv 7) pe_int (nomark _)) (pw_and1 (pt_cmpR op_ne (pe_meth (pv 5) T.Times.cl M_up_to G_up_to hr_up_to b_up_to .nil pass0 (pa_cons (pv 7) pa_nil)) (pe_callB (cr_sum rfl) (by rfl) T.sum (by decide +kernel) (pa_cons (pe_lc (own := [("one", 20)]) (by rfl) nd (pi_range1 (by rfl) T.range (pa_cons (pv 7) pa_nil)) (blkOk_by (N := nLaw) (sc := defScope sLaw) (by decide +kernel)) (fun _ _ _ _ _ => (pg_name (i := 20) nd rfl (Or.inl rfl))) (fun _ _ _ _ _ => pts_nil) (fun _ _ _ _ _ => (pe_call G_law_at hr_law_at (by rfl) A_law_at.g A_law_at.k b_law_at .nil pass0 (pa_cons (pe_ix (ix_tupK (K := K) rfl) (pv 2) pe_int (fun _ _ => rfl)) (pa_cons (pe_ix (ix_tupK (K := K) rfl) (pv 2) pe_int (fun _ _ => rfl)) (pa_cons (pv 20) pa_nil)))))) pa_nil)) (nomark _)))))
          (pss_one (ps_ret pe_bl))
          pss_nil))))
      hR), ?_⟩
  rintro σ H D ⟨a, DR, FD, RD, p, GR, ns, ff, fp, as, ts, gs, s0, s4, s7, s8, s9, s10, s11, s12, s13, s14, s15, s16, s17, s18, s19, s20, s21, rfl, B⟩ k
  refine into ⟨_, _, rfl, rfl, ⟨by decide, by decide, by decide⟩, _, rfl, DR, a, ns, 9, rfl, B.draw, B.script, B.short, by decide, fun H1 r o1 D1 r0 r9 => ⟨_, _, rfl, rfl, by show 4 ≤ sizeLine; decide, fun TT nT => ⟨TT, rfl, ⟨_, SqT.of upd_same⟩, ?_⟩⟩⟩
  have B1 := B.off o1 D1
  have e2 : Same H1 (upd H1 TT (.tup [.int 0, .int 3, .int 9, .int (10 ^ (6 : Int).toNat + r)])) := made nT
  have B2 := B1.same e2
  have hT : (upd H1 TT (.tup [.int 0, .int 3, .int 9, .int (10 ^ (6 : Int).toNat + r)])) TT = some (.tup [.int 0, .int 3, .int 9, .int (10 ^ (6 : Int).toNat + r)]) := upd_same
  generalize upd H1 TT (.tup [.int 0, .int 3, .int 9, .int (10 ^ (6 : Int).toNat + r)]) = H2 at e2 B2 hT
  refine for_tup (xs := [.int 0, .int 3, .int 9, .int (10 ^ (6 : Int).toNat + r)]) (fun i σ H' => Same H2 H' ∧ ∃ v : Option V, σ = [s0, some (.ref DR), some (.ref FD), some (.ref RD), s4, some (.ref p), some (.ref GR), v, s8, s9, s10, s11, s12, s13, s14, s15, s16, s17, s18, s19, s20, s21]) ⟨Same.refl H2, s7, rfl⟩ (fun i σ H' _ h => SqT.of (h.1 _ _ hT)) ?_ ?_
  · rintro i x σ H' hx ⟨e, v, rfl⟩
    have big : V.int (10 ^ (6 : Int).toNat + r) = .int (((10 ^ (6 : Int).toNat + r).toNat : Nat) : Int) := by
      have : (0 : Int) ≤ 10 ^ (6 : Int).toNat := by decide
      rw [Int.toNat_of_nonneg (by omega)]
    have hx' : ∃ t : Nat, x = .int t := by
      match i, hx with
      | 0, hx => cases hx; exact ⟨0, rfl⟩
      | 1, hx => cases hx; exact ⟨3, rfl⟩
      | 2, hx => cases hx; exact ⟨9, rfl⟩
      | 3, hx => cases hx; exact ⟨_, big⟩
    obtain ⟨t, rfl⟩ := hx'
    have B' := B2.same e
    obtain ⟨fa, fb, t1, t2, t3⟩ := B'.fed.ex
    obtain ⟨dx, u1, u2, z1, z2, z3⟩ := id B'.told
    have small := B'.sm.few'
    refine into ⟨_, rfl, p, dx, _, rfl, z1, lk_none ⟨by decide +kernel, by decide +kernel⟩, _, rfl, p, ff, fp, t, rfl, B'.told, B'.sm.good, ?_⟩
    refine ⟨_, rfl, FD, _, _, .ref fa, rfl, rfl, SqT.of t1, atI_nat (j := 0) rfl, _, rfl, FD, _, _, .ref fb, rfl, rfl, SqT.of t1, atI_nat (j := 1) rfl, _, rfl, fa, fb, ff, fp, t, rfl, t2, t3, B'.sm.ne, by omega, rfl, _, rfl, ?_⟩
    rw [decide_eq_true rfl]
    refine iteF ?_
    try unfold tNext
    dsimp only
    refine ⟨_, rfl, _, _, rfl, rfl, _, rfl, ?_⟩
    have next : ∀ H3, Same H' H3 → Same H2 H3 ∧ ∃ v : Option V, ([s0, some (V.ref DR), some (.ref FD), some (.ref RD), s4, some (.ref p), some (.ref GR), some (.int t), s8, s9, s10, s11, s12, s13, s14, s15, s16, s17, s18, s19, s20, s21] : L2.St) = [s0, some (.ref DR), some (.ref FD), some (.ref RD), s4, some (.ref p), some (.ref GR), v, s8, s9, s10, s11, s12, s13, s14, s15, s16, s17, s18, s19, s20, s21] := fun H3 e3 => ⟨e.trans e3, some (.int t), rfl⟩
    rcases Decidable.em ((t : Int) < 20) with c1 | c1
    · rw [decide_eq_true c1]
      refine iteT ⟨_, rfl, p, dx, _, rfl, z1, lk_none ⟨by decide +kernel, by decide +kernel⟩, _, rfl, p, ff, fp, t, rfl, B'.told, B'.sm.good, fun H3 e3 => ?_⟩
      have B3 := B'.same e3
      obtain ⟨fa3, fb3, w1, w2, w3⟩ := B3.fed.ex
      refine ⟨_, rfl, _, rfl, by omega, by omega, fun L nL => ?_⟩
      rw [show ((t : Int)).toNat = t by omega]
      refine lc_range (lo := 0) (n := t) (fun j G => G L = some (.lst (((List.range j).map (at_ ff fp)).map V.int)) ∧ Same H3 G) ⟨upd_same, made nL⟩ ?_ ?_
      · rintro j G hj ⟨gL, eG⟩
        refine ⟨rfl, _, rfl, FD, _, _, .ref fa3, rfl, rfl, SqT.of (eG _ _ w1), atI_nat (j := 0) rfl, _, rfl, FD, _, _, .ref fb3, rfl, rfl, SqT.of (eG _ _ w1), atI_nat (j := 1) rfl, _, rfl, fa3, fb3, ff, fp, j, by rw [Int.zero_add]; rfl, eG _ _ w2, eG _ _ w3, B'.sm.ne, by omega, _, gL, by rw [List.length_map, List.length_map, List.length_range, sizeLine_eq]; omega, ?_, put_in eG nL⟩
        rw [upd_same, List.range_succ, List.map_append, List.map_append]; rfl
      · rintro G ⟨gL, eG⟩
        refine ⟨L, _, rfl, SqL.of gL, rfl, _, rfl, ?_⟩
        rw [sum_row, decide_eq_true rfl]
        exact iteF (next G (e3.trans eG))
    · rw [decide_eq_false c1]
      exact iteF (next H' (Same.refl H'))
  · rintro σ H' ⟨e, v, rfl⟩
    exact restR _ _ _ ⟨a, DR, FD, RD, p, GR, ns, ff, fp, as, ts, gs, _, _, _, _, _, _, _, _, _, _, _, _, _, _, _, _, _, rfl, B2.same e⟩ k
end
end KT
end
section
/-! The law: the groups one by one. -/
namespace KT
open PySem L2 LamX
abbrev FnL := List Int × List Int
theorem eqv_self (ns : List Int) : PyData.eqv (.list (ns.map .int)) (.list (ns.map .int)) = true := SeqAt.eqv_refl _ (show PyData.canLay0 (.list (ns.map .int)) = true from lay_ints ns)
theorem ints_ne_refs {xs : List Int} {us : List Addr} (h : (xs.map V.int : List V) = us.map V.ref) : xs = [] := by
  cases xs with
  | nil => rfl
  | cons x xs => cases us with
    | nil => cases h
    | cons u us => injection h with a b; cases a
/-- the growing groups' tuples so far -/
def FirstsIs (ff fp : List Int) (gs : Gs) (H : Hp) (FI : Addr) (i : Nat) : Prop := ∃ us : List Addr, H FI = some (.lst (us.map V.ref)) ∧ us.length ≤ i ∧ (∀ u ∈ us, ∃ x y : Int, H u = some (.tup [.int x, .int y])) ∧
  ((us = [] ∧ ∀ (j : Nat) (g : FnL), j < i → gs[j]? = some g → growth ff fp g.1 g.2 ≤ 0) ∨
    ∃ (j : Nat) (g : FnL) (u : Addr) (rest : List Addr), j < i ∧ gs[j]? = some g ∧ 0 < growth ff fp g.1 g.2 ∧ (∀ (j' : Nat) (g' : FnL), j' < j → gs[j']? = some g' → growth ff fp g'.1 g'.2 ≤ 0) ∧ us = u :: rest ∧ H u = some (.tup [.int (growth ff fp g.1 g.2), .int (perN fp g.2)]))
/-- what the loop has put together -/
structure Got (ff fp : List Int) (gs : Gs) (H : Hp) (S FI : Addr) (i : Nat) : Prop where
  starts : ∃ ws : List Addr, H S = some (.lst (ws.map V.ref)) ∧ ws.length = i ∧ ∀ (j : Nat) (w : Addr) (g : FnL), ws[j]? = some w → gs[j]? = some g → H w = some (.lst ((waitL (at_ ff fp) (at_ g.1 g.2) 80).map V.int))
  firsts : FirstsIs ff fp gs H FI i
theorem wait_ne (F R : Nat → Int) : ¬ waitL F R 80 = [] := fun z => by have := congrArg List.length z; rw [waitL_len] at this; cases this
theorem Got.same {ff fp : List Int} {gs : Gs} {H H' : Hp} {S FI : Addr} {i : Nat} (h : Got ff fp gs H S FI i) (e : Same H H') : Got ff fp gs H' S FI i := by
  obtain ⟨⟨ws, h1, h2, h3⟩, ⟨us, u1, u2, u3, u4⟩⟩ := h
  refine ⟨⟨ws, e _ _ h1, h2, fun j w g a b => e _ _ (h3 j w g a b)⟩, ⟨us, e _ _ u1, u2, fun u hu => let ⟨x, y, z⟩ := u3 u hu; ⟨x, y, e _ _ z⟩, ?_⟩⟩
  rcases u4 with z | ⟨j, g, u, rest, a1, a2, a3, a4, a5, a6⟩
  · exact .inl z
  · exact .inr ⟨j, g, u, rest, a1, a2, a3, a4, a5, e _ _ a6⟩
theorem dp2 {K : PySem.W.Frag} {H : Hp} {t : Addr} {x y : Int} (h : H t = some (.tup [.int x, .int y])) : Dp K H (.ref t) (.tuple [.int x, .int y]) := .tup (SqT.of h) (.cons (.int x) (.cons (.int y) .nil))
theorem shaped2 (x y : Int) : SeqAt.shaped (.tuple [.int x, .int y]) = true := rfl
theorem eqv2 (x y : Int) : PyData.eqv (.tuple [.int x, .int y]) (.tuple [.int x, .int y]) = true := SeqAt.eqv_refl _ rfl
theorem starts_off {ff fp : List Int} {gs : Gs} {H : Hp} {S FI : Addr} {i : Nat} {us : List Addr} {o : List V} (ne : S ≠ FI) (hF : H FI = some (.lst (us.map V.ref)))
    (h : ∃ ws : List Addr, H S = some (.lst (ws.map V.ref)) ∧ ws.length = i ∧ ∀ (j : Nat) (w : Addr) (g : FnL), ws[j]? = some w → gs[j]? = some g → H w = some (.lst ((waitL (at_ ff fp) (at_ g.1 g.2) 80).map V.int))) :
    ∃ ws : List Addr, (upd H FI (.lst o)) S = some (.lst (ws.map V.ref)) ∧ ws.length = i ∧ ∀ (j : Nat) (w : Addr) (g : FnL), ws[j]? = some w → gs[j]? = some g → (upd H FI (.lst o)) w = some (.lst ((waitL (at_ ff fp) (at_ g.1 g.2) 80).map V.int)) := by
  obtain ⟨ws, h1, h2, h3⟩ := h
  refine ⟨ws, by rw [upd_ne ne]; exact h1, h2, fun j w g a b => ?_⟩
  have q := h3 j w g a b
  rw [upd_ne (fun e => ?_)]
  · exact q
  · rw [e, hF] at q
    exact wait_ne _ _ (ints_ne_refs (HO.lst.inj (Option.some.inj q)).symm)
theorem first_put {ff fp : List Int} {gs : Gs} {H : Hp} {FI u0 : Addr} {i : Nat} {g : FnL} {us : List Addr} (hF : H FI = some (.lst (us.map V.ref))) (hl : us.length ≤ i) (all : ∀ u ∈ us, ∃ x y : Int, H u = some (.tup [.int x, .int y]))
    (cs : (us = [] ∧ ∀ (j : Nat) (g : FnL), j < i → gs[j]? = some g → growth ff fp g.1 g.2 ≤ 0) ∨
      ∃ (j : Nat) (g : FnL) (u : Addr) (rest : List Addr), j < i ∧ gs[j]? = some g ∧ 0 < growth ff fp g.1 g.2 ∧ (∀ (j' : Nat) (g' : FnL), j' < j → gs[j']? = some g' → growth ff fp g'.1 g'.2 ≤ 0) ∧ us = u :: rest ∧ H u = some (.tup [.int (growth ff fp g.1 g.2), .int (perN fp g.2)]))
    (hg : gs[i]? = some g) (gr : 0 < growth ff fp g.1 g.2) (hu : H u0 = some (.tup [.int (growth ff fp g.1 g.2), .int (perN fp g.2)])) : FirstsIs ff fp gs (upd H FI (.lst (us.map V.ref ++ [.ref u0]))) FI (i + 1) := by
  have up : ∀ {u : Addr} {xs : List V}, H u = some (.tup xs) → (upd H FI (.lst (us.map V.ref ++ [.ref u0]))) u = some (.tup xs) := fun {u xs} h => by rw [upd_ne (fun e => by rw [e, hF] at h; cases h)]; exact h
  refine ⟨us ++ [u0], by rw [upd_same, List.map_append]; rfl, by rw [List.length_append]; simp; omega, fun u h => ?_, ?_⟩
  · rcases List.mem_append.mp h with h | h
    · obtain ⟨x, y, z⟩ := all u h
      exact ⟨x, y, up z⟩
    · rw [List.mem_singleton.mp h]
      exact ⟨_, _, up hu⟩
  · rcases cs with ⟨rfl, few⟩ | ⟨j, g', u, rest, a1, a2, a3, a4, rfl, a6⟩
    · exact .inr ⟨i, g, u0, [], by omega, hg, gr, few, rfl, up hu⟩
    · exact .inr ⟨j, g', u, rest ++ [u0], by omega, a2, a3, a4, rfl, up a6⟩
theorem first_keep {ff fp : List Int} {gs : Gs} {H : Hp} {FI : Addr} {i : Nat} {g : FnL} (h : FirstsIs ff fp gs H FI i) (hg : gs[i]? = some g) (gr : growth ff fp g.1 g.2 ≤ 0) : FirstsIs ff fp gs H FI (i + 1) := by
  obtain ⟨us, h1, h2, h3, h4⟩ := h
  refine ⟨us, h1, by omega, h3, ?_⟩
  rcases h4 with ⟨a, few⟩ | ⟨j, g', u, rest, a1, a2⟩
  · refine .inl ⟨a, fun j g' hj hg' => ?_⟩
    rcases Nat.lt_or_eq_of_le (Nat.le_of_lt_succ hj) with h | h
    · exact few j g' h hg'
    · subst h; rw [hg] at hg'; cases hg'; exact gr
  · exact .inr ⟨j, g', u, rest, by omega, a2⟩
theorem got_put {ff fp : List Int} {gs : Gs} {H : Hp} {S FI l : Addr} {i : Nat} {g : FnL} {ws : List Addr} (ne : S ≠ FI) (h1 : H S = some (.lst (ws.map V.ref))) (h2 : ws.length = i) (h3 : ∀ (j : Nat) (w : Addr) (g : FnL), ws[j]? = some w → gs[j]? = some g → H w = some (.lst ((waitL (at_ ff fp) (at_ g.1 g.2) 80).map V.int)))
    (hf : FirstsIs ff fp gs H FI (i + 1)) (hg : gs[i]? = some g) (hl : H l = some (.lst ((waitL (at_ ff fp) (at_ g.1 g.2) 80).map V.int))) : Got ff fp gs (upd H S (.lst (ws.map V.ref ++ [.ref l]))) S FI (i + 1) := by
  have up : ∀ {w : Addr} {F R : Nat → Int}, H w = some (.lst ((waitL F R 80).map V.int)) → (upd H S (.lst (ws.map V.ref ++ [.ref l]))) w = some (.lst ((waitL F R 80).map V.int)) := fun {w F R} q => by
    rw [upd_ne (fun e => ?_)]
    · exact q
    · rw [e, h1] at q
      exact wait_ne _ _ (ints_ne_refs (HO.lst.inj (Option.some.inj q)).symm)
  refine ⟨⟨ws ++ [l], by rw [upd_same, List.map_append]; rfl, by rw [List.length_append, h2]; rfl, fun j w g' a b => ?_⟩, ?_⟩
  · rcases Nat.lt_or_ge j i with h | h
    · rw [List.getElem?_append_left (by omega)] at a
      exact up (h3 j w g' a b)
    · have e : j = i := by
        have := (List.getElem?_eq_some_iff.mp a).1
        rw [List.length_append] at this
        simp at this; omega
      subst e
      rw [List.getElem?_append_right (by omega), h2, Nat.sub_self] at a
      cases a
      rw [hg] at b
      cases b
      exact up hl
  · obtain ⟨us, u1, u2, u3, u4⟩ := hf
    have upt : ∀ {u : Addr} {xs : List V}, H u = some (.tup xs) → (upd H S (.lst (ws.map V.ref ++ [.ref l]))) u = some (.tup xs) := fun {u xs} h => by rw [upd_ne (fun e => by rw [e, h1] at h; cases h)]; exact h
    refine ⟨us, by rw [upd_ne (Ne.symm ne)]; exact u1, u2, fun u h => let ⟨x, y, z⟩ := u3 u h; ⟨x, y, upt z⟩, ?_⟩
    rcases u4 with z | ⟨j, g', u, rest, a1, a2, a3, a4, a5, a6⟩
    · exact .inl z
    · exact .inr ⟨j, g', u, rest, a1, a2, a3, a4, a5, upt a6⟩
/-- the divisor that the law takes for the common period -/
def perDiv (a b : Int) : Int := if (a = 2 ∧ b = 4) ∨ (a = 4 ∧ b = 2) then 2 else if a = b then a else 1
theorem per_small : ∀ a : Fin 5, ∀ b : Fin 5, 0 < a.val → 0 < b.val → ((a.val : Int) * (b.val : Int)) / perDiv (a.val : Int) (b.val : Int) = (Nat.lcm a.val b.val : Nat) ∧ 0 < perDiv (a.val : Int) (b.val : Int) ∧ perDiv (a.val : Int) (b.val : Int) ≤ 4 := by decide
theorem per_div {a b : Nat} (a0 : 0 < a) (b0 : 0 < b) (a4 : a ≤ 4) (b4 : b ≤ 4) : ((a : Int) * (b : Int)) / perDiv (a : Int) (b : Int) = (Nat.lcm a b : Nat) ∧ 0 < perDiv (a : Int) (b : Int) ∧ perDiv (a : Int) (b : Int) ≤ 4 := per_small ⟨a, by omega⟩ ⟨b, by omega⟩ a0 b0
theorem dec_int {a b : Int} : decide (V.int a = V.int b) = decide (a = b) := by
  have : (V.int a = V.int b) ↔ a = b := ⟨fun e => by injection e, fun e => by rw [e]⟩
  simp only [this]
theorem per_if {lf lr : TE} {σ : L2.St} {H : Hp} {Q : VK} {a b : Int} (hF : ∀ Q : VK, Q (.int a) H → lf σ H Q) (hR : ∀ Q : VK, Q (.int b) H → lr σ H Q) (k : Q (.int (perDiv a b)) H) :
    tIf (tOr (tAnd (tTest (tOp rEq lf (tC (.int 2)))) (tTest (tOp rEq lr (tC (.int 4))))) (tAnd (tTest (tOp rEq lf (tC (.int 4)))) (tTest (tOp rEq lr (tC (.int 2)))))) (tC (.int 2)) (tIf (tTest (tOp rEq lf lr)) lf (tC (.int 1))) σ H Q := by
  have last : ¬ ((a = 2 ∧ b = 4) ∨ (a = 4 ∧ b = 2)) → tIf (tTest (tOp rEq lf lr)) lf (tC (.int 1)) σ H Q := fun no => by
    unfold perDiv at k
    rw [if_neg no] at k
    refine hF _ (hR _ ⟨rfl, _, rfl, ?_⟩)
    rw [dec_int]
    rcases Decidable.em (a = b) with z | z
    · rw [decide_eq_true z]
      rw [if_pos z] at k
      exact iteT (hF _ k)
    · rw [decide_eq_false z]
      rw [if_neg z] at k
      exact iteF k
  have yes : ((a = 2 ∧ b = 4) ∨ (a = 4 ∧ b = 2)) → Q (.int 2) H := fun y => by
    unfold perDiv at k
    rw [if_pos y] at k
    exact k
  have second : ¬ (a = 2 ∧ b = 4) → tAnd (tTest (tOp rEq lf (tC (.int 4)))) (tTest (tOp rEq lr (tC (.int 2)))) σ H fun b H1 => if b = true then tC (.int 2) σ H1 Q else tIf (tTest (tOp rEq lf lr)) lf (tC (.int 1)) σ H1 Q := fun no => by
    refine hF _ ⟨rfl, _, rfl, ?_⟩
    rw [dec_int]
    rcases Decidable.em (a = 4) with z | z
    · rw [decide_eq_true z]
      refine iteT (hR _ ⟨rfl, _, rfl, ?_⟩)
      rw [dec_int]
      rcases Decidable.em (b = 2) with y | y
      · rw [decide_eq_true y]
        exact iteT (yes (.inr ⟨z, y⟩))
      · rw [decide_eq_false y]
        exact iteF (last (by omega))
    · rw [decide_eq_false z]
      exact iteF (iteF (last (by omega)))
  refine hF _ ⟨rfl, _, rfl, ?_⟩
  rw [dec_int]
  rcases Decidable.em (a = 2) with z | z
  · rw [decide_eq_true z]
    refine iteT (hR _ ⟨rfl, _, rfl, ?_⟩)
    rw [dec_int]
    rcases Decidable.em (b = 4) with y | y
    · rw [decide_eq_true y]
      exact iteT (iteT (yes (.inl ⟨z, y⟩)))
    · rw [decide_eq_false y]
      exact iteF (second (by omega))
  · rw [decide_eq_false z]
    exact iteF (iteF (second (by omega)))
theorem per_ix {K : PySem.W.Frag} {lf lr : TE} {σ : L2.St} {H : Hp} {Q : VK} {a b : Int} (hF : ∀ Q : VK, Q (.int a) H → lf σ H Q) (hR : ∀ Q : VK, Q (.int b) H → lr σ H Q) (k : ∀ H', Same H H' → Q (.int (perDiv a b)) H') :
    tOp (rIxL K) (tLst (tCons (tIf (tOr (tAnd (tTest (tOp rEq lf (tC (.int 2)))) (tTest (tOp rEq lr (tC (.int 4))))) (tAnd (tTest (tOp rEq lf (tC (.int 4)))) (tTest (tOp rEq lr (tC (.int 2)))))) (tC (.int 2)) (tIf (tTest (tOp rEq lf lr)) lf (tC (.int 1)))) tNil)) (tC (.int 0)) σ H Q :=
  per_if hF hR ⟨by show 1 ≤ sizeLine; decide, fun l nl => ⟨l, _, _, .int (perDiv a b), rfl, rfl, SqL.of upd_same, atI_nat (j := 0) rfl, k _ (made nl)⟩⟩
/-- the state in the middle of the law -/
def LawM (K : PySem.W.Frag) (c : Cs) (PP : Addr) (σ : L2.St) (H : Hp) : Prop :=
  ∃ (a DR FD RD p GR S FI : Addr) (ns ff fp : List Int) (as ts : List Addr) (gs : Gs) (s0 s4 s7 s11 s12 s13 s14 s15 s16 s17 s18 s19 s20 s21 : Option V),
    σ = [s0, some (.ref DR), some (.ref FD), some (.ref RD), s4, some (.ref p), some (.ref GR), s7, some (.int 80), some (.ref S), some (.ref FI), s11, s12, s13, s14, s15, s16, s17, s18, s19, s20, s21] ∧ Bas K c H PP a DR FD RD p GR ns ff fp as ts gs ∧ Got ff fp gs H S FI gs.length
section
variable {P : Program} {w : World} {K : PySem.W.Frag} {mg : Str → Option Value} {base : Heap} {c : Cs} {f : Addr} {cdv : Value} {A : Around} {outer : List Env} {s : Shared} {H0 : Hp} {E : XK}
set_option maxHeartbeats 2000000 in
theorem law_C {PP fW fL fG : Addr} {fdW fdL fdG : FuncData} (T : Txt P w K mg base c) (A_law_waits : At K mg "_law_waits" fW) (G_law_waits : FnOk P w K mg base CX0 2 fW fdW ["fed", "read", "many"] spWaits) (b_law_waits : Binds K fdW ["fed", "read", "many"] [])
    (A_lags : At K mg "lags" fL) (G_lags : FnOk P w K mg base CX0 3 fL fdL ["fed", "read", "many"] (spLags c)) (b_lags : Binds K fdL ["fed", "read", "many"] [])
    (A_greatest_lag : At K mg "greatest_lag" fG) (G_greatest_lag : FnOk P w K mg base CX0 4 fG fdG ["fed", "read"] (spGL c)) (b_greatest_lag : Binds K fdG ["fed", "read"] [])
    (hr : Room 10 (lawX P w K mg base f cdv A outer s H0 E).A)
    (rest : ∃ t, PSs (lawX P w K mg base f cdv A outer s H0 E) ((defBody sLaw).drop 7) t ∧ ∀ σ H D, LawM K c PP σ H → (∀ H', D.rt (.bl true) H') → t D σ H) :
    ∃ t, PSs (lawX P w K mg base f cdv A outer s H0 E) ((defBody sLaw).drop 5) t ∧ ∀ σ H D, LawS K c PP σ H → (∀ H', D.rt (.bl true) H') → t D σ H := by
  have nd := scLaw.nd
  have hu := hr.units
  have hr_law_waits : Room 2 _ := hr.mono (by decide)
  have hr_lags : Room 3 _ := hr.mono (by decide)
  have hr_greatest_lag : Room 4 _ := hr.mono (by decide)
  have hr_says : Room 1 _ := hr.mono (by decide)
  obtain ⟨tR, hR, restR⟩ := rest
  refine ⟨_, (pss_cons (ps_par3 (i := 8) (j := 9) (l := 10) (by rfl) nd rfl rfl rfl (by decide) (by decide) (by decide) rfl rfl rfl (pa_cons pe_int (pa_cons (pe_lst pa_nil) (pa_cons (pe_lst pa_nil) pa_nil))) (by rfl))
      (pss_cons (ps_for PassesOwn.never rfl (pi_zip (by rfl) T.zip (pa_cons (pv 3) (pa_cons (pv 6) pa_nil))) (pg_tup rfl (pgs_cons (pg_name (i := 4) nd rfl (Or.inl rfl)) (pgs_cons (pg_name (i := 11) nd rfl (Or.inl rfl)) pgs_nil)))
        (pss_cons (ps_asg (pe_call G_law_waits hr_law_waits (by rfl) A_law_waits.g A_law_waits.k b_law_waits .nil pass0 (pa_cons (pv 2) (pa_cons (pv 4) (pa_cons (pv 8) pa_nil)))) (pg_tup rfl (pgs_cons (pg_name (i := 12) nd rfl (Or.inl rfl)) (pgs_cons (pg_name (i := 13) nd rfl (Or.inl rfl)) pgs_nil))))
        (pss_cons (ps_if (pt_cmpR (op_neD hu) (pe_call G_lags hr_lags (by rfl) A_lags.g A_lags.k b_lags .nil pass0 (pa_cons (pv 5) (pa_cons (pv 11) (pa_cons (pv 8) pa_nil)))) (pv 13) (nomark _))
          (pss_one (ps_ret pe_bl))
          pss_nil)
        (pss_cons (ps_set (i := 14) nd rfl (Or.inl rfl) (pe_op op_fdiv (pe_callTy call_int1 (by rfl) T.int PyProof.Rows.boot_int (pa_cons (pe_op op_mul (pe_callB call_len_seq (by rfl) T.len PySem.boot_len (pa_cons (pe_ix ix_tup (pv 2) pe_int (fun _ _ => rfl)) pa_nil)) (pe_callB call_len_seq (by rfl) T.len PySem.boot_len (pa_cons (pe_ix ix_tup (pv 4) pe_int (fun _ _ => rfl)) pa_nil))) pa_nil)) (pe_ix ix_list (pe_lst (pa_cons (pe_ifExp (PW.pt (pw_or (PW.pt (pw_and (pt_cmpR op_eq (pe_callB call_len_seq (by rfl) T.len PySem.boot_len (pa_cons (pe_ix ix_tup (pv 2) pe_int (fun _ _ => rfl)) pa_nil)) pe_int (nomark _)) (pw_and1 (pt_cmpR op_eq (pe_callB call_len_seq (by rfl) T.len PySem.boot_len (pa_cons (pe_ix ix_tup (pv 4) pe_int (fun _ _ => rfl)) pa_nil)) pe_int (nomark _))))) (pw_or1 (PW.pt (pw_and (pt_cmpR op_eq (pe_callB call_len_seq (by rfl) T.len PySem.boot_len (pa_cons (pe_ix ix_tup (pv 2) pe_int (fun _ _ => rfl)) pa_nil)) pe_int (nomark _)) (pw_and1 (pt_cmpR op_eq (pe_callB call_len_seq (by rfl) T.len PySem.boot_len (pa_cons (pe_ix ix_tup (pv 4) pe_int (fun _ _ => rfl)) pa_nil)) pe_int (nomark _)))))))) pe_int (pe_ifExp (pt_cmpR op_eq (pe_callB call_len_seq (by rfl) T.len PySem.boot_len (pa_cons (pe_ix ix_tup (pv 2) pe_int (fun _ _ => rfl)) pa_nil)) (pe_callB call_len_seq (by rfl) T.len PySem.boot_len (pa_cons (pe_ix ix_tup (pv 4) pe_int (fun _ _ => rfl)) pa_nil)) (nomark _)) (pe_callB call_len_seq (by rfl) T.len PySem.boot_len (pa_cons (pe_ix ix_tup (pv 2) pe_int (fun _ _ => rfl)) pa_nil)) pe_int)) pa_nil)) pe_int (fun _ _ => rfl))))
        (pss_cons (ps_set (i := 15) nd rfl (Or.inl rfl) (pe_op op_sub (pe_op op_mul (pe_callTy call_int1 (by rfl) T.int PyProof.Rows.boot_int (pa_cons (pe_op op_fdiv (pv 14) (pe_callB call_len_seq (by rfl) T.len PySem.boot_len (pa_cons (pe_ix ix_tup (pv 2) pe_int (fun _ _ => rfl)) pa_nil))) pa_nil)) (pe_callB (cr_sum rfl) (by rfl) T.sum (by decide +kernel) (pa_cons (pe_ix ix_tup (pv 2) pe_int (fun _ _ => rfl)) pa_nil))) (pe_op op_mul (pe_callTy call_int1 (by rfl) T.int PyProof.Rows.boot_int (pa_cons (pe_op op_fdiv (pv 14) (pe_callB call_len_seq (by rfl) T.len PySem.boot_len (pa_cons (pe_ix ix_tup (pv 4) pe_int (fun _ _ => rfl)) pa_nil))) pa_nil)) (pe_callB (cr_sum rfl) (by rfl) T.sum (by decide +kernel) (pa_cons (pe_ix ix_tup (pv 4) pe_int (fun _ _ => rfl)) pa_nil)))))
        (pss_cons (ps_set (i := 16) nd rfl (Or.inl rfl) (pe_call G_greatest_lag hr_greatest_lag (by rfl) A_greatest_lag.g A_greatest_lag.k b_greatest_lag .nil pass0 (pa_cons (pv 5) (pa_cons (pv 11) pa_nil))))
        (pss_cons (ps_if (pt_cmpR op_gt (pv 15) pe_int (nomark _))
          (pss_cons (ps_if (PW.pt (pw_or (pt_says T.says hr_says pass0 (pv 16)) (pw_or1 (pt_cmpR (op_neD hu) (pe_tup (pa_cons (pe_fld (pv 16) rfl) (pa_cons (pe_fld (pv 16) rfl) pa_nil))) (pe_tup (pa_cons (pv 15) (pa_cons (pv 14) pa_nil))) (nomark _)))))
            (pss_one (ps_ret pe_bl))
            pss_nil)
          (pss_one (ps_expr (pe_bm PySem.F.plainAttrs_list PySem.F.slot_list_append PySem.F.type_list_append mt_append (pv 10) (pa_cons (pe_tup (pa_cons (pv 15) (pa_cons (pv 14) pa_nil))) pa_nil)))))
          (pss_one (ps_if (PW.pt (pw_or (pt_not (pt_says T.says hr_says pass0 (pv 16))) (pw_or1 (pt_cmpR (op_neD hu) (pe_tup (pa_cons (pe_fld (pv 16) rfl) (pa_cons (pe_fld (pv 16) rfl) pa_nil))) (pe_tup (pa_cons (pe_callB (cr_max rfl) (by rfl) T.max (by decide +kernel) (pa_cons (pv 13) pa_nil)) (pa_cons (pe_bm PySem.F.plainAttrs_list PySem.F.slot_list_index PySem.F.type_list_index mt_index (pv 13) (pa_cons (pe_callB (cr_max rfl) (by rfl) T.max (by decide +kernel) (pa_cons (pv 13) pa_nil)) pa_nil)) pa_nil))) (nomark _)))))
            (pss_one (ps_ret pe_bl))
            pss_nil)))
        (pss_one (ps_expr (pe_bm PySem.F.plainAttrs_list PySem.F.slot_list_append PySem.F.type_list_append mt_append (pv 9) (pa_cons (pv 12) pa_nil)))))))))))
      hR)), ?_⟩
  rintro σ H D ⟨a, DR, FD, RD, p, GR, ns, ff, fp, as, ts, gs, s0, s4, s7, s8, s9, s10, s11, s12, s13, s14, s15, s16, s17, s18, s19, s20, s21, rfl, B⟩ k
  refine into ⟨Nat.zero_le _, fun S nS => ⟨Nat.zero_le _, fun FI nFI => ⟨_, _, _, rfl, ?_⟩⟩⟩
  have hS1 : (upd (upd H S (.lst [])) FI (.lst [])) S = some (.lst []) := by rw [upd_ne (ne_of_none upd_same nFI), upd_same]
  have hF1 : (upd (upd H S (.lst [])) FI (.lst [])) FI = some (.lst []) := upd_same
  have e1 : Same H (upd (upd H S (.lst [])) FI (.lst [])) := (made nS).trans (made nFI)
  have neSF : S ≠ FI := ne_of_none upd_same nFI
  have nFI0 : H FI = none := Same.free (made nS) nFI
  generalize upd (upd H S (.lst [])) FI (.lst []) = H1 at hS1 hF1 e1
  have B1 := B.same e1
  have lts : ts.length = gs.length := B.at_.len
  refine into ⟨_, rfl, _, rfl, RD, GR, _, _, rfl, SqL.of B1.reads, SqL.of B1.groups, ?_⟩
  refine RZ.for_zipL (xs := as.map V.ref) (ys := ts.map V.ref) (by rw [List.length_map, List.length_map, B.len, lts]) (fun i σ H' => Same H H' ∧ Got ff fp gs H' S FI i ∧ ∃ v4 v11 v12 v13 v14 v15 v16 : Option V, σ = [s0, some (.ref DR), some (.ref FD), some (.ref RD), v4, some (.ref p), some (.ref GR), s7, some (.int 80), some (.ref S), some (.ref FI), v11, v12, v13, v14, v15, v16, s17, s18, s19, s20, s21])
    ⟨e1, ⟨⟨[], hS1, rfl, fun j w g z => nomatch (show (none : Option Addr) = some w from z)⟩, ⟨[], hF1, Nat.zero_le _, (fun u hu => nomatch hu), .inl ⟨rfl, fun j g z => absurd z (Nat.not_lt_zero j)⟩⟩⟩, s4, s11, s12, s13, s14, s15, s16, rfl⟩
    (fun i σ H' h => ⟨SqL.of (h.1 _ _ B.reads), SqL.of (h.1 _ _ B.groups)⟩) ?_ ?_
  · rintro i x y TT σ H' hx hy ⟨e, got, v4, v11, v12, v13, v14, v15, v16, rfl⟩ nT
    obtain ⟨b, hb, rfl⟩ := ref_at hx
    obtain ⟨tb, htb, rfl⟩ := ref_at hy
    have li : i < gs.length := by rw [← B.len]; exact (List.getElem?_eq_some_iff.mp hb).1
    have hg : gs[i]? = some gs[i] := List.getElem?_eq_getElem li
    generalize gs[i] = g at hg
    have few3 := B.few
    have e2 : Same H' (upd H' TT (.tup [.ref b, .ref tb])) := made nT
    have hT : (upd H' TT (.tup [.ref b, .ref tb])) TT = some (.tup [.ref b, .ref tb]) := upd_same
    generalize upd H' TT (.tup [.ref b, .ref tb]) = H2 at e2 hT
    have eH2 := e.trans e2
    have B2 := B.same eH2
    have pr := B2.rd i b g hb hg
    have tg := (B2.at_.at_ i tb g htb hg).1
    have smF := B.sm
    have smG := B.sms i g hg
    have lf := smF.few'
    have lg := smG.few'
    have both : Both c H2 p tb ff fp g.1 g.2 := ⟨B2.told, tg, smF.good, smG.good⟩
    refine ⟨TT, _, rfl, SqT.of hT, rfl, _, _, rfl, _, _, rfl, rfl, ?_⟩
    refine into ⟨_, rfl, _, rfl, _, rfl, FD, b, ff, fp, g.1, g.2, 80, rfl, B2.fed, pr, smF.ne, by omega, smG.ne, by omega, by decide, fun H3 q l1 l2 e3 hq w1 w2 => ⟨q, _, rfl, SqT.of hq, rfl, _, _, rfl, _, _, rfl, rfl, ?_⟩⟩
    have both3 := both.same e3
    refine into ⟨_, rfl, _, rfl, _, rfl, p, tb, ff, fp, g.1, g.2, 80, rfl, both3, by decide, fun H4 l3 e4 h3 => ⟨_, rfl, .list ((lagsL (at_ ff fp) (at_ g.1 g.2) 80).map .int), .list ((lagsL (at_ ff fp) (at_ g.1 g.2) 80).map .int), .lst (SqL.of h3) (dp_ints _), .lst (SqL.of (e4 _ _ w2)) (dp_ints _), shape_ints _, shape_ints _, _, rfl, ?_⟩⟩
    rw [eqv_self]
    refine iteF ?_
    try unfold tNext
    dsimp only
    have e24 := e3.trans e4
    have eH4 := eH2.trans e24
    have B4 := B2.same e24
    have got4 := got.same (e2.trans e24)
    have pr4 := pr.same e24
    have both4 := both3.same e4
    have w14 := e4 _ _ w1
    have w24 := e4 _ _ w2
    clear w1 w2 both3 both pr B2
    obtain ⟨fa, fb, t1, t2, t3⟩ := B4.fed.ex
    obtain ⟨ra, rb, u1, u2, u3⟩ := pr4.ex
    have lenF : ∀ (σ : L2.St) (Q : VK), σ[2]? = some (some (.ref FD)) → Q (.int fp.length) H4 → tCB (fun xs H Q => ∃ p ys, xs = [V.ref p] ∧ (SqL K H p ys ∨ SqT K H p ys) ∧ Q (V.int ys.length) H) (tCons (tOp (rIxT K) (tVar 2) (tC (V.int 1))) tNil) σ H4 Q := fun σ Q hs q => ⟨_, hs, FD, _, _, .ref fb, rfl, rfl, SqT.of t1, atI_nat (j := 1) rfl, fb, _, rfl, .inl (SqL.of t3), by rw [List.length_map]; exact q⟩
    have lenR : ∀ (σ : L2.St) (Q : VK), σ[4]? = some (some (.ref b)) → Q (.int g.2.length) H4 → tCB (fun xs H Q => ∃ p ys, xs = [V.ref p] ∧ (SqL K H p ys ∨ SqT K H p ys) ∧ Q (V.int ys.length) H) (tCons (tOp (rIxT K) (tVar 4) (tC (V.int 1))) tNil) σ H4 Q := fun σ Q hs q => ⟨_, hs, b, _, _, .ref rb, rfl, rfl, SqT.of u1, atI_nat (j := 1) rfl, rb, _, rfl, .inl (SqL.of u3), by rw [List.length_map]; exact q⟩
    have pF := List.length_pos_iff.mpr smF.ne
    have pR := List.length_pos_iff.mpr smG.ne
    have pd := per_div pF pR lf lg
    refine into ⟨_, rfl, FD, _, _, .ref fb, rfl, rfl, SqT.of t1, atI_nat (j := 1) rfl, fb, _, rfl, .inl (SqL.of t3), _, rfl, b, _, _, .ref rb, rfl, rfl, SqT.of u1, atI_nat (j := 1) rfl, rb, _, rfl, .inl (SqL.of u3), _, _, rfl, rfl, .inl ⟨by rw [List.length_map]; omega, by rw [List.length_map]; omega⟩, .inl ⟨_, rfl, ?_⟩⟩
    rw [List.length_map, List.length_map]
    dsimp only
    refine per_ix (K := K) (a := fp.length) (b := g.2.length) (fun Q q => lenF _ Q rfl q) (fun Q q => lenR _ Q rfl q) fun H5 e5 => ?_
    refine ⟨_, _, rfl, rfl, ⟨pd.2.1, by have := pd.2.2; omega⟩, ?_⟩
    dsimp only
    rw [pd.1]
    have eH5 := eH4.trans e5
    have got5 := got4.same e5
    have both5 := both4.same e5
    have w15 := e5 _ _ w14
    have w25 := e5 _ _ w24
    have t1 := e5 _ _ t1
    have t3 := e5 _ _ t3
    have u1 := e5 _ _ u1
    have u3 := e5 _ _ u3
    have P1 := perN_le smF.good smG.good
    have geq := growth_eq smF.good smG.good
    have fl := smF.few'
    have gl := smG.few'
    have P1 : Nat.lcm fp.length g.2.length ≤ 576 := P1
    have d1 : (0 : Int) ≤ ((Nat.lcm fp.length g.2.length : Nat) : Int) / (fp.length : Int) ∧ ((Nat.lcm fp.length g.2.length : Nat) : Int) / (fp.length : Int) ≤ Nat.lcm fp.length g.2.length := ⟨Int.ediv_nonneg (by omega) (by omega), Int.ediv_le_self _ (by omega)⟩
    have d2 : (0 : Int) ≤ ((Nat.lcm fp.length g.2.length : Nat) : Int) / (g.2.length : Int) ∧ ((Nat.lcm fp.length g.2.length : Nat) : Int) / (g.2.length : Int) ≤ Nat.lcm fp.length g.2.length := ⟨Int.ediv_nonneg (by omega) (by omega), Int.ediv_le_self _ (by omega)⟩
    clear lenF lenR
    refine into ⟨_, rfl, _, rfl, FD, _, _, .ref fb, rfl, rfl, SqT.of t1, atI_nat (j := 1) rfl, fb, _, rfl, .inl (SqL.of t3), _, _, rfl, rfl, ?_, .inl ⟨_, rfl, _, rfl, FD, _, _, .ref fb, rfl, rfl, SqT.of t1, atI_nat (j := 1) rfl, fb, fp, rfl, SqL.of t3, _, _, rfl, rfl, ?_, ?_⟩⟩
    · rw [List.length_map]; exact ⟨by omega, by omega⟩
    · rw [List.length_map]; exact .inl ⟨by omega, by omega⟩
    rw [List.length_map]
    refine ⟨_, rfl, _, rfl, b, _, _, .ref rb, rfl, rfl, SqT.of u1, atI_nat (j := 1) rfl, rb, _, rfl, .inl (SqL.of u3), _, _, rfl, rfl, ?_, .inl ⟨_, rfl, _, rfl, b, _, _, .ref rb, rfl, rfl, SqT.of u1, atI_nat (j := 1) rfl, rb, g.2, rfl, SqL.of u3, _, _, rfl, rfl, ?_, _, _, rfl, rfl, ?_⟩⟩
    · rw [List.length_map]; exact ⟨by omega, by omega⟩
    · rw [List.length_map]; exact .inl ⟨by omega, by omega⟩
    rw [List.length_map]
    have gv : ((Nat.lcm fp.length g.2.length : Nat) : Int) / (fp.length : Int) * fp.sum - ((Nat.lcm fp.length g.2.length : Nat) : Int) / (g.2.length : Int) * g.2.sum = growth ff fp g.1 g.2 := by
      rw [← geq, Int.mul_comm, Int.mul_comm _ g.2.sum]; rfl
    dsimp only
    rw [gv]
    have fin : ∀ (Hx : Hp) (v14 v15 v16 : Option V) (ws : List Addr), Same H Hx → Hx S = some (.lst (ws.map V.ref)) → ws.length = i → (∀ (j : Nat) (w : Addr) (g : FnL), ws[j]? = some w → gs[j]? = some g → Hx w = some (.lst ((waitL (at_ ff fp) (at_ g.1 g.2) 80).map V.int))) → FirstsIs ff fp gs Hx FI (i + 1) → Hx l1 = some (.lst ((waitL (at_ ff fp) (at_ g.1 g.2) 80).map V.int)) →
        tDrop (tBM K "list" rAppend (tVar 9) (tCons (tVar 12) tNil)) { nx := fun σ H' => Same H H' ∧ Got ff fp gs H' S FI (i + 1) ∧ ∃ v4 v11 v12 v13 v14 v15 v16 : Option V, σ = [s0, some (.ref DR), some (.ref FD), some (.ref RD), v4, some (.ref p), some (.ref GR), s7, some (.int 80), some (.ref S), some (.ref FI), v11, v12, v13, v14, v15, v16, s17, s18, s19, s20, s21], rt := D.rt, bk := tR D, ct := fun σ H' => Same H H' ∧ Got ff fp gs H' S FI (i + 1) ∧ ∃ v4 v11 v12 v13 v14 v15 v16 : Option V, σ = [s0, some (.ref DR), some (.ref FD), some (.ref RD), v4, some (.ref p), some (.ref GR), s7, some (.int 80), some (.ref S), some (.ref FI), v11, v12, v13, v14, v15, v16, s17, s18, s19, s20, s21] }
          [s0, some (.ref DR), some (.ref FD), some (.ref RD), some (.ref b), some (.ref p), some (.ref GR), s7, some (.int 80), some (.ref S), some (.ref FI), some (.ref tb), some (.ref l1), some (.ref l2), v14, v15, v16, s17, s18, s19, s20, s21] Hx := fun Hx v14 v15 v16 ws eX x1 x2 x3 xf xl =>
      ⟨_, rfl, .inl ⟨rfl, _, SqL.of x1⟩, _, rfl, S, _, _, rfl, rfl, x1, by rw [List.length_map, x2, sizeLine_eq]; omega, put_in eX nS, got_put neSF x1 x2 x3 xf hg xl, _, _, _, _, _, _, _, rfl⟩
    obtain ⟨⟨ws, x1, x2, x3⟩, xf⟩ := got5
    refine into ⟨_, rfl, _, rfl, p, tb, ff, fp, g.1, g.2, rfl, both5, fun gr H6 q dx e6 hq => ?_, fun gr H6 q dx m j e6 hq top lt => ?_⟩
    · refine into ⟨_, rfl, _, _, rfl, rfl, _, rfl, ?_⟩
      rw [decide_eq_true gr]
      refine iteT ?_
      refine into ⟨_, rfl, q, _, dx, _, false, rfl, hq, .inr (.inl ⟨rfl, rfl⟩), iteF ?_⟩
      refine ⟨_, rfl, q, _, dx, _, .int (growth ff fp g.1 g.2), rfl, hq, T.Growing.cl, T.n_ggrowth, rF_snd, _, rfl, q, _, dx, _, .int (perN fp g.2), rfl, hq, T.Growing.cl, T.n_gperiod, rF_fst (by decide +kernel), by show 2 ≤ sizeLine; decide, fun y1 ny1 => ⟨_, rfl, _, rfl, by show 2 ≤ sizeLine; decide, fun y2 ny2 => ⟨.tuple [.int (growth ff fp g.1 g.2), .int (perN fp g.2)], .tuple [.int (growth ff fp g.1 g.2), .int (perN fp g.2)], dp2 (made ny2 _ _ upd_same), dp2 upd_same, shaped2 _ _, shaped2 _ _, _, rfl, ?_⟩⟩⟩
      rw [eqv2]
      refine iteF ?_
      have e7 := (e6.trans (made (o := HO.tup [.int (growth ff fp g.1 g.2), .int (perN fp g.2)]) ny1)).trans (made (o := HO.tup [.int (growth ff fp g.1 g.2), .int ((Nat.lcm fp.length g.2.length : Nat) : Int)]) ny2)
      have P0 : (V.int ((Nat.lcm fp.length g.2.length : Nat) : Int)) = .int (perN fp g.2) := rfl
      generalize upd (upd H6 y1 (.tup [.int (growth ff fp g.1 g.2), .int (perN fp g.2)])) y2 (.tup [.int (growth ff fp g.1 g.2), .int ((Nat.lcm fp.length g.2.length : Nat) : Int)]) = H7 at e7
      obtain ⟨us, f1, f2, f3, f4⟩ := xf
      have f1 := e7 _ _ f1
      have nF7 : ∀ {u : Addr}, H7 u = none → u ≠ FI := fun h e => by rw [e, f1] at h; cases h
      refine ⟨_, rfl, .inl ⟨rfl, _, SqL.of f1⟩, _, rfl, _, rfl, by show 2 ≤ sizeLine; decide, fun y3 ny3 => ⟨FI, _, _, rfl, rfl, made ny3 _ _ f1, by rw [List.length_map, sizeLine_eq]; omega, ?_⟩⟩
      have e8 := e7.trans (made (o := HO.tup [.int (growth ff fp g.1 g.2), .int ((Nat.lcm fp.length g.2.length : Nat) : Int)]) ny3)
      have h83 : (upd H7 y3 (.tup [.int (growth ff fp g.1 g.2), .int ((Nat.lcm fp.length g.2.length : Nat) : Int)])) y3 = some (.tup [.int (growth ff fp g.1 g.2), .int (perN fp g.2)]) := upd_same
      have f8 := (made (o := HO.tup [.int (growth ff fp g.1 g.2), .int ((Nat.lcm fp.length g.2.length : Nat) : Int)]) ny3) _ _ f1
      generalize upd H7 y3 (.tup [.int (growth ff fp g.1 g.2), .int ((Nat.lcm fp.length g.2.length : Nat) : Int)]) = H8 at e8 h83 f8
      have all8 : ∀ u ∈ us, ∃ x y : Int, H8 u = some (.tup [.int x, .int y]) := fun u hu => let ⟨x, y, z⟩ := f3 u hu; ⟨x, y, e8 _ _ z⟩
      have cs8 := (show FirstsIs ff fp gs H5 FI i → FirstsIs ff fp gs H8 FI i from fun h => (Got.same ⟨⟨ws, x1, x2, x3⟩, h⟩ e8).firsts)
      have fp8 := first_put (i := i) f8 f2 all8 (by
        rcases f4 with z | ⟨j, g', u, rest, a1, a2, a3, a4, a5, a6⟩
        · exact .inl z
        · exact .inr ⟨j, g', u, rest, a1, a2, a3, a4, a5, e8 _ _ a6⟩) hg gr h83
      obtain ⟨ws', z1, z2, z3⟩ := starts_off (o := us.map V.ref ++ [.ref y3]) neSF f8 ⟨ws, e8 _ _ x1, x2, fun j w g a b => e8 _ _ (x3 j w g a b)⟩
      refine fin _ _ _ _ ws' (put_in (eH5.trans e8) nFI0) z1 z2 z3 fp8 ?_
      have q1 := e8 _ _ w15
      rw [upd_ne (fun e => by
        rw [e, f8] at q1
        exact wait_ne _ _ (ints_ne_refs (HO.lst.inj (Option.some.inj q1)).symm))]
      exact q1
    · refine into ⟨_, rfl, _, _, rfl, rfl, _, rfl, ?_⟩
      rw [decide_eq_false (show ¬ growth ff fp g.1 g.2 > 0 by omega)]
      refine iteF ?_
      have few80 : j < 80 := by
        have l := lcm_le lf lg
        have a := smF.few
        have b := smG.few
        unfold ticksN frontN perN at lt
        omega
      have w26 := e6 _ _ w25
      have flat : ((lagsL (at_ ff fp) (at_ g.1 g.2) 80).map V.int).all flatV = true := all_flat _
      refine ⟨_, rfl, q, _, dx, _, true, rfl, hq, .inl ⟨rfl, rfl⟩, iteF ?_⟩
      refine ⟨_, rfl, q, _, dx, _, .int m, rfl, hq, T.Lag.cl, T.n_lnumber, rF_fst (by decide +kernel), _, rfl, q, _, dx, _, .int j, rfl, hq, T.Lag.cl, T.n_ltick, rF_snd, by show 2 ≤ sizeLine; decide, fun y1 ny1 => ?_⟩
      have w27 := (made (o := HO.tup [.int m, .int j]) ny1) _ _ w26
      have h71 : (upd H6 y1 (.tup [.int m, .int j])) y1 = some (.tup [.int m, .int j]) := upd_same
      have e7 := e6.trans (made (o := HO.tup [.int m, .int j]) ny1)
      generalize upd H6 y1 (.tup [.int m, .int j]) = H7 at e7 h71 w27
      refine ⟨_, rfl, l2, _, rfl, SqL.of w27, by rw [lagsL_len]; decide, fun mx mem all => ?_⟩
      have em := top.max few80 mem all
      subst em
      refine ⟨_, rfl, .inl ⟨rfl, _, SqL.of w27⟩, _, rfl, l2, _, rfl, SqL.of w27, by rw [lagsL_len]; decide, fun mx2 mem2 all2 => ?_⟩
      have em2 := top.max few80 mem2 all2
      subst em2
      obtain ⟨ix, hix, first⟩ := first_at mem2
      have ei := top.index few80 hix first
      have hix' : ((lagsL (at_ ff fp) (at_ g.1 g.2) 80).map V.int)[ix]? = some (.int mx2) := by rw [List.getElem?_map, hix]; rfl
      refine ⟨l2, _, .int mx2, ix, .int mx2, rfl, rfl, SqL.of w27, rfl, flat, hix', beq_self_eq_true mx2, fun i z hi hz => ?_, by show 2 ≤ sizeLine; decide, fun y2 ny2 => ?_⟩
      · obtain ⟨n, hn, rfl⟩ := int_at hz
        exact beq_eq_false_iff_ne.mpr fun e => first i hi (e ▸ hn)
      · subst ei
        refine ⟨.tuple [.int mx2, .int ix], .tuple [.int mx2, .int ix], dp2 (made ny2 _ _ h71), dp2 upd_same, shaped2 _ _, shaped2 _ _, _, rfl, ?_⟩
        rw [eqv2]
        have e8 := e7.trans (made (o := HO.tup [.int mx2, .int ix]) ny2)
        exact iteF (fin _ _ _ _ ws (eH5.trans e8) (e8 _ _ x1) x2 (fun j w g a b => e8 _ _ (x3 j w g a b)) (first_keep (Got.same ⟨⟨ws, x1, x2, x3⟩, xf⟩ e8).firsts hg gr) (e8 _ _ w15))
  · rintro σ H' ⟨e, got, v4, v11, v12, v13, v14, v15, v16, rfl⟩
    rw [List.length_map, B.len] at got
    exact restR _ _ _ ⟨a, DR, FD, RD, p, GR, S, FI, ns, ff, fp, as, ts, gs, _, _, _, _, _, _, _, _, _, _, _, _, _, _, rfl, B.same e, got⟩ k
end
end KT
end
section
/-! The law: kept rows. -/
namespace L2
open PySem PySem.Spec PyProof.Rows
section
variable {X : Cx} {K : PySem.W.Frag}
theorem cr_maxK (hK : X.K = K) (hc : X.calm = true) : CallR X (.builtin "max") (rMax K) := by subst hK; exact cr_max hc
theorem mt_indexK (hK : X.K = K) : MtR X "list.index" (rIndex K) := by subst hK; exact mt_index
theorem pe_ofK {e : Expr} {T : String} {r : V → List V → Hp → VK → Prop} {to : TE} {t : TA} (hK : X.K = K) (h : PE X e (tBM X.K T r to t)) : PE X e (tBM K T r to t) := by rw [← hK]; exact h
end
end L2
namespace KT
open PySem L2 LamX
theorem dp3 {K : PySem.W.Frag} {H : Hp} {t : Addr} {x y z : Int} (h : H t = some (.tup [.int x, .int y, .int z])) : Dp K H (.ref t) (.tuple [.int x, .int y, .int z]) := .tup (SqT.of h) (.cons (.int x) (.cons (.int y) (.cons (.int z) .nil)))
theorem shaped3 (x y z : Int) : SeqAt.shaped (.tuple [.int x, .int y, .int z]) = true := rfl
theorem eqv3 (x y z : Int) : PyData.eqv (.tuple [.int x, .int y, .int z]) (.tuple [.int x, .int y, .int z]) = true := SeqAt.eqv_refl _ rfl
/-- a list of pairs of numbers, as data -/
theorem dp_pairs {K : PySem.W.Frag} {H : Hp} : ∀ us : List Addr, (∀ u ∈ us, ∃ x y : Int, H u = some (.tup [.int x, .int y])) → ∃ ds : List PyData, DpAll K H (us.map V.ref) ds ∧ PyData.canLayAll0 ds = true ∧ PyData.depthAll ds ≤ 1 ∧ ds.length = us.length
  | [], _ => ⟨[], .nil, rfl, Nat.zero_le _, rfl⟩
  | u :: us, h => by
    obtain ⟨ds, a, b, c, d⟩ := dp_pairs us fun v hv => h v (List.mem_cons_of_mem _ hv)
    obtain ⟨x, y, z⟩ := h u List.mem_cons_self
    refine ⟨.tuple [.int x, .int y] :: ds, .cons (dp2 z) a, ?_, ?_, by rw [List.length_cons, List.length_cons, d]⟩
    · show (PyData.canLay0 (.tuple [.int x, .int y]) && PyData.canLayAll0 ds) = true
      rw [b]; rfl
    · rw [PyData.depthAll]
      have : PyData.depth (.tuple [.int x, .int y]) = 1 := rfl
      omega
theorem shape_pairs {ds : List PyData} (a : PyData.canLayAll0 ds = true) (b : PyData.depthAll ds ≤ 1) : SeqAt.shaped (.list ds) = true := by
  have e1 : PyData.canLay0 (.list ds) = true := a
  have e2 : PyData.depth (.list ds) ≤ 2 := by show PyData.depthAll _ + 1 ≤ 2; omega
  unfold SeqAt.shaped
  rw [e1, decide_eq_true (by omega)]; rfl
theorem eqv_none {ds : List PyData} : PyData.eqv (.list ds) (.list []) = decide (ds = []) := by
  cases ds <;> rfl
theorem inV_int {r : Int} {ns : List Int} : inV (.int r) (ns.map V.int) = decide (r ∈ ns) := by
  unfold inV
  rw [Bool.eq_iff_iff, decide_eq_true_iff, List.any_eq_true]
  constructor
  · rintro ⟨x, hx, e⟩
    obtain ⟨n, hn, rfl⟩ := List.mem_map.mp hx
    have : n = r := by simpa [eqV] using e
    rwa [← this]
  · intro h
    exact ⟨.int r, List.mem_map.mpr ⟨r, h, rfl⟩, by simp [eqV]⟩
theorem wait_mem {F R : Nat → Int} {n : Nat} {y : Int} : y ∈ waitL F R n ↔ ∃ t, t < n ∧ pre F R t + F t = y := by
  unfold waitL
  rw [List.mem_map]
  exact ⟨fun ⟨t, h, e⟩ => ⟨t, List.mem_range.mp h, e⟩, fun ⟨t, h, e⟩ => ⟨t, List.mem_range.mpr h, e⟩⟩
theorem wait_at {F R : Nat → Int} {n t : Nat} (h : t < n) : (waitL F R n)[t]? = some (pre F R t + F t) := rowAt (g := fun t => pre F R t + F t) h
theorem fn_at {gs : Gs} {j : Nat} {g : FnL} (h : gs[j]? = some g) : gs.fn[j]? = some (at_ g.1 g.2) := by
  show (gs.map fun g => at_ g.1 g.2)[j]? = _
  rw [List.getElem?_map, h]; rfl
theorem fn_mem {gs : Gs} {j : Nat} {g : FnL} (h : gs[j]? = some g) : at_ g.1 g.2 ∈ gs.fn := List.mem_of_getElem? (fn_at h)
/-- what is made of the rows of all groups -/
def I1 (F : Nat → Int) (gs : Gs) (xs : List Int) (i : Nat) : Prop := xs.length = i ∧ ∀ (j : Nat) (x : Int) (g : FnL), xs[j]? = some x → gs[j]? = some g → x ∈ waitL F (at_ g.1 g.2) 80 ∧ ∀ y ∈ waitL F (at_ g.1 g.2) 80, y ≤ x
def I2 (F : Nat → Int) (gs : Gs) (rows : Int) (ys : List Int) (i : Nat) : Prop := ys.length ≤ i ∧ (∀ y ∈ ys, ∃ (n j : Nat) (g : FnL), y = n ∧ gs[j]? = some g ∧ (waitL F (at_ g.1 g.2) 80)[n]? = some rows) ∧
  ∀ (j : Nat) (g : FnL), j < i → gs[j]? = some g → rows ∈ waitL F (at_ g.1 g.2) 80 → ∃ y ∈ ys, ∀ t : Nat, (waitL F (at_ g.1 g.2) 80)[t]? = some rows → y ≤ t
def I3 (F : Nat → Int) (gs : Gs) (rows : Int) (tk : Nat) (zs : List Int) (i : Nat) : Prop := zs.length ≤ i ∧ ((zs = [] ∧ ∀ (j : Nat) (g : FnL), j < i → gs[j]? = some g → ¬ pre F (at_ g.1 g.2) tk + F tk = rows) ∨
  ∃ (j : Nat) (g : FnL) (rest : List Int), zs = (j : Int) :: rest ∧ gs[j]? = some g ∧ pre F (at_ g.1 g.2) tk + F tk = rows ∧ ∀ (j' : Nat) (g' : FnL), j' < j → gs[j']? = some g' → ¬ pre F (at_ g'.1 g'.2) tk + F tk = rows)
theorem top_group {F : Nat → Int} {gs : Gs} {rows : Int} {tk i : Nat} (top : KeepTop F gs.fn rows tk i) : ∃ g, gs[i]? = some g ∧ pre F (at_ g.1 g.2) tk + F tk = rows := by
  obtain ⟨R, h, e⟩ := top.is
  have h : (gs.map fun g => at_ g.1 g.2)[i]? = some R := h
  rw [List.getElem?_map] at h
  cases hg : gs[i]? with
  | none => rw [hg] at h; cases h
  | some g => rw [hg] at h; cases h; exact ⟨g, rfl, e⟩
theorem rows_eq {F : Nat → Int} {gs : Gs} {rows mx : Int} {tk i : Nat} {xs : List Int} (top : KeepTop F gs.fn rows tk i) (lt : tk < 80) (h : I1 F gs xs gs.length) (mem : mx ∈ xs) (all : ∀ y ∈ xs, y ≤ mx) : mx = rows := by
  obtain ⟨g, hg, e⟩ := top_group top
  have li := (List.getElem?_eq_some_iff.mp hg).1
  have hx : xs[i]? = some (xs[i]'(by rw [h.1]; exact li)) := List.getElem?_eq_getElem _
  have a := (h.2 i _ g hx hg).2 rows (wait_mem.mpr ⟨tk, lt, e⟩)
  have b := all _ (List.mem_of_getElem? hx)
  obtain ⟨j, hj, ej⟩ := List.getElem_of_mem mem
  have hj' : gs[j]? = some (gs[j]'(by rw [← h.1]; exact hj)) := List.getElem?_eq_getElem _
  obtain ⟨t, _, et⟩ := wait_mem.mp (h.2 j mx _ (by rw [List.getElem?_eq_getElem hj, ej]) hj').1
  have d := top.le _ (fn_mem hj') t
  omega
theorem tick_eq {F : Nat → Int} {gs : Gs} {rows mn : Int} {tk i : Nat} {ys : List Int} (top : KeepTop F gs.fn rows tk i) (lt : tk < 80) (h : I2 F gs rows ys gs.length) (mem : mn ∈ ys) (all : ∀ y ∈ ys, mn ≤ y) : mn = tk := by
  obtain ⟨g, hg, e⟩ := top_group top
  have li := (List.getElem?_eq_some_iff.mp hg).1
  obtain ⟨y, hy, low⟩ := h.2.2 i g li hg (wait_mem.mpr ⟨tk, lt, e⟩)
  have a := low tk (by rw [wait_at lt, e])
  have b := all y hy
  obtain ⟨n, j, g', rfl, hg', hn⟩ := h.2.1 mn mem
  have ln : n < 80 := by have := (List.getElem?_eq_some_iff.mp hn).1; rwa [waitL_len] at this
  rw [wait_at ln] at hn
  have en := Option.some.inj hn
  rcases Nat.lt_or_ge n tk with h1 | h1
  · exact absurd en (top.early _ (fn_mem hg') n h1)
  · omega
theorem ticks_some {F : Nat → Int} {gs : Gs} {rows : Int} {tk i : Nat} {ys : List Int} (top : KeepTop F gs.fn rows tk i) (lt : tk < 80) (h : I2 F gs rows ys gs.length) : 0 < ys.length := by
  obtain ⟨g, hg, e⟩ := top_group top
  have li := (List.getElem?_eq_some_iff.mp hg).1
  obtain ⟨y, hy, _⟩ := h.2.2 i g li hg (wait_mem.mpr ⟨tk, lt, e⟩)
  exact List.length_pos_of_mem hy
theorem group_eq {F : Nat → Int} {gs : Gs} {rows : Int} {tk i : Nat} {zs : List Int} (top : KeepTop F gs.fn rows tk i) (h : I3 F gs rows tk zs gs.length) : ∃ rest, zs = (i : Int) :: rest := by
  obtain ⟨g, hg, e⟩ := top_group top
  have li := (List.getElem?_eq_some_iff.mp hg).1
  rcases h.2 with ⟨_, no⟩ | ⟨j, g', rest, ez, hg', e', few⟩
  · exact absurd e (no i g li hg)
  · rcases Nat.lt_trichotomy j i with h1 | h1 | h1
    · exact absurd e' (top.group j _ h1 (fn_at hg'))
    · subst h1; exact ⟨rest, ez⟩
    · exact absurd e (few i g h1 hg)
section
variable {P : Program} {w : World} {K : PySem.W.Frag} {mg : Str → Option Value} {base : Heap} {c : Cs} {f : Addr} {cdv : Value} {A : Around} {outer : List Env} {s : Shared} {H0 : Hp} {E : XK}
set_option maxHeartbeats 2000000 in
theorem law_D {PP fK : Addr} {fdK : FuncData} (T : Txt P w K mg base c)
    (A_least_keeping : At K mg "least_keeping" fK) (G_least_keeping : FnOk P w K mg base CX0 5 fK fdK ["fed", "groups"] (spKeep c)) (b_least_keeping : Binds K fdK ["fed", "groups"] [])
    (hr : Room 10 (lawX P w K mg base f cdv A outer s H0 E).A)
    (rest : ∃ t, PSs (lawX P w K mg base f cdv A outer s H0 E) ((defBody sLaw).drop 9) t ∧ ∀ σ H D, LawM K c PP σ H → (∀ H', D.rt (.bl true) H') → t D σ H) :
    ∃ t, PSs (lawX P w K mg base f cdv A outer s H0 E) ((defBody sLaw).drop 7) t ∧ ∀ σ H D, LawM K c PP σ H → (∀ H', D.rt (.bl true) H') → t D σ H := by
  have nd := scLaw.nd
  have hu := hr.units
  have hr_least_keeping : Room 5 _ := hr.mono (by decide)
  have hr_says : Room 1 _ := hr.mono (by decide)
  obtain ⟨tR, hR, restR⟩ := rest
  refine ⟨_, (pss_cons (ps_set (i := 16) nd rfl (Or.inl rfl) (pe_call G_least_keeping hr_least_keeping (by rfl) A_least_keeping.g A_least_keeping.k b_least_keeping .nil pass0 (pa_cons (pv 5) (pa_cons (pv 6) pa_nil))))
      (pss_cons (ps_if (pt_cmpR (op_neD hu) (pv 10) (pe_lst pa_nil) (nomark _))
        (pss_one (ps_if (PW.pt (pw_or (pt_says T.says hr_says pass0 (pv 16)) (pw_or1 (pt_cmpR (op_neD hu) (pe_tup (pa_cons (pe_fld (pv 16) rfl) (pa_cons (pe_fld (pv 16) rfl) pa_nil))) (pe_ix ix_list (pv 10) pe_int (fun _ _ => rfl)) (nomark _)))))
          (pss_one (ps_ret pe_bl))
          pss_nil))
        (pss_cons (ps_set (i := 17) nd rfl (Or.inr rfl) (pe_callB (cr_max rfl) (by rfl) T.max (by decide +kernel) (pa_cons (pe_lc (own := [("ahead", 12)]) (by rfl) nd (pi_list (pv 9)) (blkOk_by (N := nLaw) (sc := defScope sLaw) (by decide +kernel)) (fun _ _ _ _ _ => (pg_name (i := 12) nd rfl (Or.inl rfl))) (fun _ _ _ _ _ => pts_nil) (fun _ _ _ _ _ => (pe_callB (cr_maxK (K := K) rfl rfl) (by rfl) T.max (by decide +kernel) (pa_cons (pv 12) pa_nil)))) pa_nil)))
        (pss_cons (ps_set (i := 7) nd rfl (Or.inr rfl) (pe_callB (cr_min rfl) (by rfl) T.min (by decide +kernel) (pa_cons (pe_lc (own := [("ahead", 12)]) (by rfl) nd (pi_list (pv 9)) (blkOk_by (N := nLaw) (sc := defScope sLaw) (by decide +kernel)) (fun _ _ _ _ _ => (pg_name (i := 12) nd rfl (Or.inl rfl))) (fun _ _ _ _ _ => pts_one (pt_cmpR (op_in_seqK (K := K) rfl) (pv 17) (pv 12) rfl)) (fun _ _ _ _ _ => (pe_ofK (K := K) rfl (pe_bm PySem.F.plainAttrs_list PySem.F.slot_list_index PySem.F.type_list_index (mt_indexK (K := K) rfl) (pv 12) (pa_cons (pv 17) pa_nil))))) pa_nil)))
        (pss_cons (ps_set (i := 18) nd rfl (Or.inl rfl) (pe_ix ix_list (pe_lc (own := [("number", 21), ("ahead", 12)]) (by rfl) nd (pi_enum (by rfl) T.enumerate (pa_cons (pv 9) pa_nil)) (blkOk_by (N := nLaw) (sc := defScope sLaw) (by decide +kernel)) (fun _ _ _ _ _ => (pg_tupK (K := K) (n := 2) rfl rfl (pgs_cons (pg_name (i := 21) nd rfl (Or.inl rfl)) (pgs_cons (pg_name (i := 12) nd rfl (Or.inl rfl)) pgs_nil)))) (fun _ _ _ _ _ => pts_one (pt_cmpR op_eq (pe_ix (ix_listK (K := K) rfl) (pv 12) (pv 7) (fun _ _ => rfl)) (pv 17) (nomark _))) (fun _ _ _ _ _ => (pv 21))) pe_int (fun _ _ => rfl)))
        (pss_one (ps_if (PW.pt (pw_or (pt_not (pt_says T.says hr_says pass0 (pv 16))) (pw_or1 (pt_cmpR (op_neD hu) (pe_tup (pa_cons (pe_fld (pv 16) rfl) (pa_cons (pe_fld (pv 16) rfl) (pa_cons (pe_fld (pv 16) rfl) pa_nil)))) (pe_tup (pa_cons (pv 17) (pa_cons (pv 7) (pa_cons (pv 18) pa_nil)))) (nomark _)))))
          (pss_one (ps_ret pe_bl))
          pss_nil))))))
      hR)), ?_⟩
  rintro σ H D ⟨a, DR, FD, RD, p, GR, S, FI, ns, ff, fp, as, ts, gs, s0, s4, s7, s11, s12, s13, s14, s15, s16, s17, s18, s19, s20, s21, rfl, B, got⟩ k
  have good := B.sm.good
  have few := B.few
  obtain ⟨us, f1, f2, f3, f4⟩ := id got.firsts
  refine into ⟨_, rfl, _, rfl, p, GR, ff, fp, ts, gs, rfl, B.told, good, B.groups, B.at_, B.pos, by omega, fun i g hg gr least H1 r dx e1 hr1 => ?_, fun none H1 r dx rows tk i e1 hr1 top hlt => ?_⟩
  · have li := (List.getElem?_eq_some_iff.mp hg).1
    rcases f4 with ⟨rfl, no⟩ | ⟨j, g', u, rest', a1, a2, a3, a4, a5, a6⟩
    · exact absurd (no i g li hg) (by omega)
    have ej : j = i := by
      rcases Nat.lt_trichotomy j i with h | h | h
      · exact absurd (least j g' h a2) (by omega)
      · exact h
      · exact absurd (a4 i g h hg) (by omega)
    subst ej
    rw [hg] at a2
    cases a2
    refine into ⟨_, rfl, Nat.zero_le _, fun z nz => ?_⟩
    have e2 := e1.trans (made (o := HO.lst []) nz)
    have hz : (upd H1 z (.lst [])) z = some (.lst []) := upd_same
    have hr2 := (made (o := HO.lst []) nz) _ _ hr1
    generalize upd H1 z (.lst []) = H2 at e2 hz hr2
    obtain ⟨ds, da, db, dc, dd⟩ := dp_pairs (K := K) (H := H2) us fun u hu => let ⟨x, y, z⟩ := f3 u hu; ⟨x, y, e2 _ _ z⟩
    refine ⟨.list ds, .list [], .lst (SqL.of (e2 _ _ f1)) da, .lst (SqL.of hz) .nil, shape_pairs db dc, rfl, _, rfl, ?_⟩
    rw [eqv_none, decide_eq_false (show ¬ ds = [] from fun y => by rw [y, a5] at dd; simp at dd)]
    refine iteT ?_
    rw [a5] at f1
    refine ⟨_, rfl, r, _, dx, _, false, rfl, hr2, .inr (.inl ⟨rfl, rfl⟩), iteF ⟨_, rfl, r, _, dx, _, .int (growth ff fp g.1 g.2), rfl, hr2, T.Growing.cl, T.n_ggrowth, rF_snd, _, rfl, r, _, dx, _, .int (perN fp g.2), rfl, hr2, T.Growing.cl, T.n_gperiod, rF_fst (by decide +kernel), by show 2 ≤ sizeLine; decide, fun y ny => ?_⟩⟩
    have e3 := made (o := HO.tup [.int (growth ff fp g.1 g.2), .int (perN fp g.2)]) ny
    refine ⟨_, rfl, FI, _, _, .ref u, rfl, rfl, SqL.of (e3 _ _ (e2 _ _ f1)), atI_nat (j := 0) rfl, .tuple [.int (growth ff fp g.1 g.2), .int (perN fp g.2)], .tuple [.int (growth ff fp g.1 g.2), .int (perN fp g.2)], dp2 upd_same, dp2 (e3 _ _ (e2 _ _ a6)), shaped2 _ _, shaped2 _ _, _, rfl, ?_⟩
    rw [eqv2]
    refine iteF ?_
    exact restR _ _ _ ⟨a, DR, FD, RD, p, GR, S, FI, ns, ff, fp, as, ts, gs, _, _, _, _, _, _, _, _, _, _, _, _, _, _, rfl, (B.same e2).same e3, (got.same e2).same e3⟩ k
  · rcases f4 with ⟨rfl, _⟩ | ⟨j, g', u, rest', a1, a2, a3, a4, a5, a6⟩
    rotate_left
    · exact absurd (none j g' a2) (by omega)
    have lt80 : tk < 80 := by
      obtain ⟨g, hg, lt⟩ := hlt
      have s1 := B.sm
      have s2 := B.sms i g hg
      have l := lcm_le s1.few' s2.few'
      have a := s1.few
      have b := s2.few
      unfold ticksN frontN perN at lt
      omega
    refine into ⟨_, rfl, Nat.zero_le _, fun z nz => ?_⟩
    have e2 := e1.trans (made (o := HO.lst []) nz)
    have hz : (upd H1 z (.lst [])) z = some (.lst []) := upd_same
    have hr2 := (made (o := HO.lst []) nz) _ _ hr1
    generalize upd H1 z (.lst []) = H2 at e2 hz hr2
    refine ⟨.list [], .list [], .lst (SqL.of (e2 _ _ f1)) .nil, .lst (SqL.of hz) .nil, rfl, rfl, _, rfl, ?_⟩
    rw [eqv_none, decide_eq_true rfl]
    refine iteF ?_
    dsimp only
    obtain ⟨ws, x1, x2, x3⟩ := got.starts
    have x1 := e2 _ _ x1
    have row : ∀ {j : Nat} {w : Addr}, ws[j]? = some w → ∃ g : FnL, gs[j]? = some g ∧ H2 w = some (.lst ((waitL (at_ ff fp) (at_ g.1 g.2) 80).map V.int)) := fun {j w} h => by
      have lj : j < gs.length := by rw [← x2]; exact (List.getElem?_eq_some_iff.mp h).1
      exact ⟨gs[j], List.getElem?_eq_getElem lj, e2 _ _ (x3 j w _ h (List.getElem?_eq_getElem lj))⟩
    -- rows
    refine into ⟨_, rfl, S, rfl, ⟨_, SqL.of x1⟩, fun M nM => lc_list (K := K) (a := S) (xs := ws.map V.ref) (fun i H' => ∃ xs : List Int, H' M = some (.lst (xs.map V.int)) ∧ Same H2 H' ∧ I1 (at_ ff fp) gs xs i) ⟨[], upd_same, made nM, rfl, fun j x g h => nomatch (show (Option.none : Option Int) = some x from h)⟩ (fun i H' _ ⟨_, _, e, _⟩ => SqL.of (e _ _ x1)) ?_ ?_⟩
    · rintro j u H' hu ⟨xs, hM, e, l, inf⟩
      obtain ⟨w, hw, rfl⟩ := ref_at hu
      obtain ⟨g, hg, hrow⟩ := row hw
      have lj : j < gs.length := (List.getElem?_eq_some_iff.mp hg).1
      refine ⟨rfl, _, rfl, w, _, rfl, SqL.of (e _ _ hrow), by rw [waitL_len]; decide, fun m mem all => ⟨_, hM, by rw [List.length_map, l, sizeLine_eq]; omega, xs ++ [m], by rw [upd_same, List.map_append]; rfl, put_in e nM, by rw [List.length_append, l]; rfl, fun j' x g' q1 q2 => ?_⟩⟩
      rcases Nat.lt_or_ge j' j with h | h
      · rw [List.getElem?_append_left (by omega)] at q1
        exact inf j' x g' q1 q2
      · have ej : j' = j := by
          have := (List.getElem?_eq_some_iff.mp q1).1
          rw [List.length_append] at this
          simp at this; omega
        subst ej
        rw [List.getElem?_append_right (by omega), l, Nat.sub_self] at q1
        cases q1
        rw [hg] at q2
        cases q2
        exact ⟨mem, all⟩
    · rintro H3 ⟨xs, hM, e3, inf1⟩
      rw [List.length_map, x2] at inf1
      have pos := B.pos
      refine ⟨M, xs, rfl, SqL.of hM, by rw [inf1.1]; exact pos, fun mx mem all => ?_⟩
      have em := rows_eq top lt80 inf1 mem all
      subst em
      -- tick
      dsimp only
      have x13 := e3 _ _ x1
      refine into ⟨_, rfl, S, rfl, ⟨_, SqL.of x13⟩, fun N nN => lc_list (K := K) (a := S) (xs := ws.map V.ref) (fun i H' => ∃ ys : List Int, H' N = some (.lst (ys.map V.int)) ∧ Same H3 H' ∧ I2 (at_ ff fp) gs mx ys i) ⟨[], upd_same, made nN, Nat.zero_le _, (fun y h => nomatch h), fun j g h => absurd h (Nat.not_lt_zero j)⟩ (fun i H' _ ⟨_, _, e, _⟩ => SqL.of (e _ _ x13)) ?_ ?_⟩
      · rintro j u H' hu ⟨ys, hN, e, l, inf, cov⟩
        obtain ⟨w, hw, rfl⟩ := ref_at hu
        obtain ⟨g, hg, hrow⟩ := row hw
        have hrow := e _ _ (e3 _ _ hrow)
        have lj : j < gs.length := (List.getElem?_eq_some_iff.mp hg).1
        have flat : ((waitL (at_ ff fp) (at_ g.1 g.2) 80).map V.int).all flatV = true := all_flat _
        refine ⟨rfl, _, rfl, _, rfl, w, _, rfl, .inl (SqL.of hrow), rfl, flat, _, rfl, ?_⟩
        rw [inV_int]
        rcases Decidable.em (mx ∈ waitL (at_ ff fp) (at_ g.1 g.2) 80) with c1 | c1
        · rw [decide_eq_true c1]
          obtain ⟨ix, hix, first⟩ := first_at c1
          have hix' : ((waitL (at_ ff fp) (at_ g.1 g.2) 80).map V.int)[ix]? = some (.int mx) := by rw [List.getElem?_map, hix]; rfl
          refine iteT ⟨_, rfl, .inl ⟨rfl, _, SqL.of hrow⟩, _, rfl, w, _, .int mx, ix, .int mx, rfl, rfl, SqL.of hrow, rfl, flat, hix', beq_self_eq_true mx, fun i z hi hz => ?_, _, hN, by rw [List.length_map, sizeLine_eq]; omega, ys ++ [(ix : Int)], by rw [upd_same, List.map_append]; rfl, put_in e nN, by rw [List.length_append]; simp; omega, fun y hy => ?_, fun j' g' hj' hg' hm => ?_⟩
          · obtain ⟨n, hn, rfl⟩ := int_at hz
            exact beq_eq_false_iff_ne.mpr fun e => first i hi (e ▸ hn)
          · rcases List.mem_append.mp hy with h | h
            · exact inf y h
            · rw [List.mem_singleton.mp h]
              exact ⟨ix, j, g, rfl, hg, hix⟩
          · rcases Nat.lt_or_eq_of_le (Nat.le_of_lt_succ hj') with h | h
            · obtain ⟨y, hy, low⟩ := cov j' g' h hg' hm
              exact ⟨y, List.mem_append_left _ hy, low⟩
            · subst h
              rw [hg] at hg'
              cases hg'
              refine ⟨ix, List.mem_append_right _ (List.mem_singleton.mpr rfl), fun t ht => ?_⟩
              have : ¬ t < ix := fun z => first t z ht
              omega
        · rw [decide_eq_false c1]
          refine iteF ⟨ys, hN, e, by omega, inf, fun j' g' hj' hg' hm => ?_⟩
          rcases Nat.lt_or_eq_of_le (Nat.le_of_lt_succ hj') with h | h
          · exact cov j' g' h hg' hm
          · subst h
            rw [hg] at hg'
            cases hg'
            exact absurd hm c1
      · rintro H4 ⟨ys, hN, e4, inf2⟩
        rw [List.length_map, x2] at inf2
        refine ⟨N, ys, rfl, SqL.of hN, ticks_some top lt80 inf2, fun mn mem2 all2 => ?_⟩
        have en := tick_eq top lt80 inf2 mem2 all2
        subst en
        -- group
        dsimp only
        have x14 := e4 _ _ x13
        refine into ⟨_, rfl, S, _, rfl, SqL.of x14, fun G nG => lc_it (walk_enum (xs := ws.map V.ref)) (fun i H' => ∃ zs : List Int, H' G = some (.lst (zs.map V.int)) ∧ Same H4 H' ∧ I3 (at_ ff fp) gs mx tk zs i) ⟨[], upd_same, made nG, Nat.zero_le _, .inl ⟨rfl, fun j g h => absurd h (Nat.not_lt_zero j)⟩⟩ (fun i H' _ ⟨_, _, e, _⟩ => SqL.of (e _ _ x14)) ?_ ?_⟩
        · rintro j u H' H5 hj ⟨zs, hG, e, l, cs⟩ ⟨T1, y1, y2, rfl, nT, rfl, ey1, ey2⟩
          cases (Option.some.inj ey1)
          obtain ⟨w, hw, rfl⟩ := ref_at ey2
          obtain ⟨g, hg, hrow⟩ := row hw
          have lj : j < gs.length := (List.getElem?_eq_some_iff.mp hg).1
          have e5 : Same H' (upd H' T1 (.tup [.int (j : Nat), .ref w])) := made nT
          have hT : (upd H' T1 (.tup [.int (j : Nat), .ref w])) T1 = some (.tup [.int (j : Nat), .ref w]) := upd_same
          generalize upd H' T1 (.tup [.int (j : Nat), .ref w]) = H5 at e5 hT
          have hrow := e5 _ _ (e _ _ (e4 _ _ (e3 _ _ hrow)))
          have hG5 := e5 _ _ hG
          have e45 := e.trans e5
          refine ⟨T1, _, rfl, SqT.of hT, rfl, _, _, rfl, _, _, rfl, rfl, rfl, _, rfl, _, rfl, w, _, _, .int (pre (at_ ff fp) (at_ g.1 g.2) tk + at_ ff fp tk), rfl, rfl, SqL.of hrow, atI_nat (by rw [List.getElem?_map, wait_at lt80]; rfl), _, rfl, rfl, _, rfl, ?_⟩
          rw [dec_int]
          rcases Decidable.em (pre (at_ ff fp) (at_ g.1 g.2) tk + at_ ff fp tk = mx) with c1 | c1
          · rw [decide_eq_true c1]
            refine iteT ⟨_, rfl, _, hG5, by rw [List.length_map, sizeLine_eq]; omega, zs ++ [(j : Int)], by rw [upd_same, List.map_append]; rfl, put_in e45 nG, by rw [List.length_append]; simp; omega, ?_⟩
            rcases cs with ⟨rfl, no⟩ | ⟨j', g', rest2, ez, hg', e', few'⟩
            · exact .inr ⟨j, g, [], rfl, hg, c1, no⟩
            · exact .inr ⟨j', g', rest2 ++ [(j : Int)], by rw [ez]; rfl, hg', e', few'⟩
          · rw [decide_eq_false c1]
            refine iteF ⟨zs, hG5, e45, by omega, ?_⟩
            rcases cs with ⟨rfl, no⟩ | h
            · refine .inl ⟨rfl, fun j' g' hj' hg' => ?_⟩
              rcases Nat.lt_or_eq_of_le (Nat.le_of_lt_succ hj') with h | h
              · exact no j' g' h hg'
              · subst h
                rw [hg] at hg'
                cases hg'
                exact c1
            · exact .inr h
        · rintro H5 ⟨zs, hG, e5, inf3⟩
          rw [List.length_map, x2] at inf3
          obtain ⟨rest2, ez⟩ := group_eq top inf3
          subst ez
          have e25 := (e3.trans e4).trans e5
          have hr5 := e25 _ _ hr2
          refine ⟨G, _, _, .int (i : Nat), rfl, rfl, SqL.of hG, atI_nat (j := 0) rfl, ?_⟩
          try unfold tNext
          dsimp only
          have lkr : (kF (.int mx) (.int (tk : Nat)) (.int (i : Nat))).lookup ("rows" : Str) = some (.int mx) := by
            unfold kF
            rw [lookup_putF, if_neg (by decide +kernel), lookup_putF, if_neg (by decide +kernel), lookup_putF, if_pos rfl]
          have lkt : (kF (.int mx) (.int (tk : Nat)) (.int (i : Nat))).lookup ("tick" : Str) = some (.int (tk : Nat)) := by
            unfold kF
            rw [lookup_putF, if_neg (by decide +kernel), lookup_putF, if_pos rfl]
          have lkg : (kF (.int mx) (.int (tk : Nat)) (.int (i : Nat))).lookup ("group" : Str) = some (.int (i : Nat)) := by
            unfold kF
            rw [lookup_putF, if_pos rfl]
          refine ⟨_, rfl, r, _, dx, _, true, rfl, hr5, .inr (.inr ⟨rfl, rfl⟩), iteF ⟨_, rfl, r, _, dx, _, .int mx, rfl, hr5, T.Keep.cl, T.n_krows, lkr, _, rfl, r, _, dx, _, .int (tk : Nat), rfl, hr5, T.Keep.cl, T.n_ktick, lkt, _, rfl, r, _, dx, _, .int (i : Nat), rfl, hr5, T.Keep.cl, T.n_kgroup, lkg, by show 3 ≤ sizeLine; decide, fun y ny => ⟨_, rfl, _, rfl, _, rfl, by show 3 ≤ sizeLine; decide, fun y2 ny2 => ?_⟩⟩⟩
          have e6 := (made (o := HO.tup [.int mx, .int (tk : Nat), .int (i : Nat)]) ny).trans (made (o := HO.tup [.int mx, .int (tk : Nat), .int (i : Nat)]) ny2)
          refine ⟨.tuple [.int mx, .int (tk : Nat), .int (i : Nat)], .tuple [.int mx, .int (tk : Nat), .int (i : Nat)], dp3 (made ny2 _ _ upd_same), dp3 upd_same, shaped3 _ _ _, shaped3 _ _ _, _, rfl, ?_⟩
          rw [eqv3]
          refine iteF ?_
          have eAll := (e2.trans e25).trans e6
          exact restR _ _ _ ⟨a, DR, FD, RD, p, GR, S, FI, ns, ff, fp, as, ts, gs, _, _, _, _, _, _, _, _, _, _, _, _, _, _, rfl, B.same eAll, got.same eAll⟩ k
end
end KT
end
section
/-! The law as a whole. -/
namespace KT
open PySem L2 LamX
section
variable {P : Program} {w : World} {K : PySem.W.Frag} {mg : Str → Option Value} {base : Heap} {c : Cs} {f : Addr} {cdv : Value} {A : Around} {outer : List Env} {s : Shared} {H0 : Hp} {E : XK}
theorem law_E {PP fT fR fX : Addr} {fdT fdR fdX : FuncData} (T : Txt P w K mg base c) (A_law_take : At K mg "_law_take" fT) (G_law_take : FnOk P w K mg base CX0 2 fT fdT ["draw", "many"] (spTake K)) (b_law_take : Binds K fdT ["draw", "many"] [])
    (A_law_rate_right : At K mg "_law_rate_right" fR) (G_law_rate_right : FnOk P w K mg base CX0 8 fR fdR ["draw", "fed", "told", "many"] (spRight K c)) (b_law_rate_right : Binds K fdR ["draw", "fed", "told", "many"] [])
    (A_law_refused : At K mg "_law_refused" fX) (G_law_refused : FnOk P w K mg base CX0 10 fX fdX [] (spRefd PP)) (b_law_refused : Binds K fdX [] [])
    (hr : Room 10 (lawX P w K mg base f cdv A outer s H0 E).A) :
    ∃ t, PSs (lawX P w K mg base f cdv A outer s H0 E) ((defBody sLaw).drop 9) t ∧ ∀ σ H D, LawM K c PP σ H → (∀ H', D.rt (.bl true) H') → t D σ H := by
  have nd := scLaw.nd
  have hr_law_take : Room 2 _ := hr.mono (by decide)
  have hr_law_rate_right : Room 8 _ := hr.mono (by decide)
  have hr_law_refused : Room 10 _ := hr
  refine ⟨_, (pss_one (ps_ret (pe_and (pe_call G_law_rate_right hr_law_rate_right (by rfl) A_law_rate_right.g A_law_rate_right.k b_law_rate_right .nil pass0 (pa_cons (pv 1) (pa_cons (pv 2) (pa_cons (pv 5) (pa_cons (pv 8) pa_nil))))) (pe_one (pe_or (pe_cmpR op_gt (pe_call G_law_take hr_law_take (by rfl) A_law_take.g A_law_take.k b_law_take .nil pass0 (pa_cons (pv 1) (pa_cons pe_int pa_nil))) pe_int (nomark _)) (pe_one (pe_call0 G_law_refused (hr_law_refused) (by rfl) A_law_refused.g A_law_refused.k b_law_refused .nil pass0))))))), ?_⟩
  rintro σ H D ⟨a, DR, FD, RD, p, GR, S, FI, ns, ff, fp, as, ts, gs, s0, s4, s7, s11, s12, s13, s14, s15, s16, s17, s18, s19, s20, s21, rfl, B, got⟩ k
  refine ⟨_, rfl, _, rfl, _, rfl, _, rfl, DR, a, FD, p, ns, ff, fp, 80, rfl, B.draw, B.script, B.short, B.fed, B.told, B.sm.good, by decide, by decide, fun H1 o1 D1 => ?_⟩
  have B1 := B.off o1 D1
  refine ⟨_, rfl, iteT ⟨_, rfl, DR, a, ns, 6, rfl, D1, B1.script, B1.short, by decide, fun H2 r o2 D2 r0 r6 => ⟨_, _, rfl, rfl, _, rfl, ?_⟩⟩⟩
  have B2 := B1.off o2 D2
  rcases Decidable.em (r > 0) with c1 | c1
  · rw [decide_eq_true c1]
    exact iteT (k H2)
  · rw [decide_eq_false c1]
    exact iteF ⟨rfl, B2.tabs, fun H3 _ => k H3⟩
theorem ok_law {PP fT fR fI fL fA fU fW fLa fG fK fRr fX : Addr} {fd fdT fdR fdI fdL fdA fdU fdW fdLa fdG fdK fdRr fdX : FuncData} (F : Fun K "law" "law" sLaw f fd) (T : Txt P w K mg base c)
    (A_law_take : At K mg "_law_take" fT) (G_law_take : FnOk P w K mg base CX0 2 fT fdT ["draw", "many"] (spTake K)) (b_law_take : Binds K fdT ["draw", "many"] [])
    (A_law_row : At K mg "_law_row" fR) (G_law_row : FnOk P w K mg base CX0 3 fR fdR ["draw", "many", "most"] (spRow K)) (b_law_row : Binds K fdR ["draw", "many", "most"] [])
    (M_Times : Mk K c.times fI) (G_Times : FnOk P w K mg base CX0 3 fI fdI ["self", "front", "period"] (spTInit c)) (b_Times : Binds K fdI ["self", "front", "period"] [])
    (A_law_at : At K mg "_law_at" fL) (G_law_at : FnOk P w K mg base CX0 1 fL fdL ["front", "period", "tick"] spLAt) (b_law_at : Binds K fdL ["front", "period", "tick"] [])
    (M_at : Meth K c.times "at" fA) (G_at : FnOk P w K mg base CX0 2 fA fdA ["self", "tick"] (spAt c)) (b_at : Binds K fdA ["self", "tick"] [])
    (M_up_to : Meth K c.times "up_to" fU) (G_up_to : FnOk P w K mg base CX0 1 fU fdU ["self", "tick"] (spUpTo c)) (b_up_to : Binds K fdU ["self", "tick"] [])
    (A_law_waits : At K mg "_law_waits" fW) (G_law_waits : FnOk P w K mg base CX0 2 fW fdW ["fed", "read", "many"] spWaits) (b_law_waits : Binds K fdW ["fed", "read", "many"] [])
    (A_lags : At K mg "lags" fLa) (G_lags : FnOk P w K mg base CX0 3 fLa fdLa ["fed", "read", "many"] (spLags c)) (b_lags : Binds K fdLa ["fed", "read", "many"] [])
    (A_greatest_lag : At K mg "greatest_lag" fG) (G_greatest_lag : FnOk P w K mg base CX0 4 fG fdG ["fed", "read"] (spGL c)) (b_greatest_lag : Binds K fdG ["fed", "read"] [])
    (A_least_keeping : At K mg "least_keeping" fK) (G_least_keeping : FnOk P w K mg base CX0 5 fK fdK ["fed", "groups"] (spKeep c)) (b_least_keeping : Binds K fdK ["fed", "groups"] [])
    (A_law_rate_right : At K mg "_law_rate_right" fRr) (G_law_rate_right : FnOk P w K mg base CX0 8 fRr fdRr ["draw", "fed", "told", "many"] (spRight K c)) (b_law_rate_right : Binds K fdRr ["draw", "fed", "told", "many"] [])
    (A_law_refused : At K mg "_law_refused" fX) (G_law_refused : FnOk P w K mg base CX0 10 fX fdX [] (spRefd PP)) (b_law_refused : Binds K fdX [] []) :
    FnOk P w K mg base CX0 11 f fd ["script"] (spLaw K PP) := by
  refine F.ok scLaw (fun vs H Q E h => ?_) (fun cdv A outer s H vs Q E hr h => ?_)
  · obtain ⟨a, ns, rfl, _⟩ := h
    rfl
  · obtain ⟨a, ns, rfl, hS, few, tabs, k⟩ := h
    obtain ⟨t, ht, run⟩ := law_A (PP := PP) (ns := ns) (a := a) T A_law_take G_law_take b_law_take A_law_row G_law_row b_law_row M_Times G_Times b_Times hr
      (law_B T A_law_take G_law_take b_law_take A_law_at G_law_at b_law_at M_at G_at b_at M_up_to G_up_to b_up_to hr
        (law_C T A_law_waits G_law_waits b_law_waits A_lags G_lags b_lags A_greatest_lag G_greatest_lag b_greatest_lag hr
          (law_D T A_least_keeping G_least_keeping b_least_keeping hr
            (law_E T A_law_take G_law_take b_law_take A_law_rate_right G_law_rate_right b_law_rate_right A_law_refused G_law_refused b_law_refused hr))))
    exact ⟨t, ht, run H _ hS few tabs k⟩
end
theorem from_law {l : PySem.W.OpenLaw} {q : Program} {loose : List Str} {XP : (Str → Option Value) → Heap → Prop} {YP : World → Heap → Prop} {d : DefRec} {K : Params → PySem.W.Frag} (hn : l.most = some 63) (hdf : d.params.defaults = [])
    (hY : ∀ (w : World) (h : Heap), YP w h → (K w.params).In h)
    (facts : ∀ (w : World) (mg : Str → Option Value) (fa : Addr) (h : Heap), YP w h → (K w.params).In h → h.Ns mainGlobals mg → mg d.name = some (.ref fa) →
      ∃ (fd : FuncData) (cc PP : Addr), h.get? PP = some { cls := .none, data := .fields #[] } ∧ (K w.params).lookup PP = none ∧ PySem.W.CodeHd h cc PP ∧ (∀ (s : Shared) (u : Value), BindsTo s fd ⟨[u], []⟩ [("script", u)]) ∧
        ∀ base : Heap, (K w.params).In base → base.Ns mainGlobals mg → TabB base mg cc PP → FnOk l.prog w (K w.params) mg base CX0 11 fa fd ["script"] (spLaw (K w.params) PP)) : PySem.W.WalkO q loose XP YP l.row.toRowW d [] (fun f vs => PySem.call f vs) :=
  LamX.walk_ofTs (n := 63) (k := 11) (x := "script") (CX := fun _ => CX0) hn (by decide) hdf ⟨rfl, by decide, by decide⟩ hY
    (fun w mg fa h Y i g e => by
      obtain ⟨fd, cc, PP, h1, h2, h3, b, c⟩ := facts w mg fa h Y i g e
      refine ⟨fd, [(cc, PP)], spLaw (K w.params) PP, fun p hp => ?_, fun p hp => ?_, fun p hp => ?_, b, fun H a ns hl _ hT hS => ⟨a, ns, rfl, hS, hl, fun p hp => ?_, fun _ => rfl⟩, fun base i g tb => c base i g (tb _ (List.mem_singleton.mpr rfl))⟩
      all_goals (rw [List.mem_singleton.mp hp])
      · exact h1
      · exact h2
      · exact h3
      · exact TabS.nil (hT _ (List.mem_singleton.mpr rfl)))
    fun _ _ _ _ _ z => z
end KT
end
section
/-! From what the top has written to the law. -/
namespace KT
open PySem L2 LamX
theorem kit_sub {K : PySem.W.Frag} {t : Value} {C : Addr} {v : Bool} (hd : PySem.W.hasDictIn K C = true) (ty : PySem.W.typeIn K (.ref C) = some (.type "type")) (su : PySem.W.subIn K t (.ref C) = some v) (ne : (t == .ref C) = true → v = true) : PySem.W.kitOne K t (.ref C) = some v := by
  obtain ⟨cd, hc, _⟩ := PySem.W.any_some hd
  have e2 : ((PySem.W.clsIn K C).isSome && PySem.W.typeIn K (.ref C) == some (.type "type")) = true := by rw [hc, ty] <;> rfl
  unfold PySem.W.kitOne
  split
  · rename_i h; rw [ne h]
  · show (if ((PySem.W.clsIn K C).isSome && PySem.W.typeIn K (.ref C) == some (.type "type")) = true then PySem.W.subIn K t (.ref C) else none) = some v
    rw [if_pos e2]; exact su

set_option maxHeartbeats 4000000 in
theorem all_mk {l : PySem.W.OpenLaw} {w : World} {K : PySem.W.Frag} {h : Heap} {mg : Str → Option Value} {fa : Addr} {CT CL CG CP CR CB CX fTI fTAt fUp fLagI fLagB fGroI fGroB fKeeI fKeeB fRatI fShows fNum fAre fAt fFront fPer fCheck fGL fGrow fTicks fLags fFrom fAfter fAhead fKeep fWait fAsked fSteady fEnough fRate fBeyond fNumber fTake fRow fLAt fWaits fIsRef fRight fRefd fLaw cc PP : Addr}
    {ocTI kVTI dcTI pmTI cdTI ctTI : Value} {odTI anTI : Option Addr} {slTI : Array (Option Value)}
    {ocTAt kVTAt dcTAt pmTAt cdTAt ctTAt : Value} {odTAt anTAt : Option Addr} {slTAt : Array (Option Value)}
    {ocUp kVUp dcUp pmUp cdUp ctUp : Value} {odUp anUp : Option Addr} {slUp : Array (Option Value)}
    {ocLagI kVLagI dcLagI pmLagI cdLagI ctLagI : Value} {odLagI anLagI : Option Addr} {slLagI : Array (Option Value)}
    {ocLagB kVLagB dcLagB pmLagB cdLagB ctLagB : Value} {odLagB anLagB : Option Addr} {slLagB : Array (Option Value)}
    {ocGroI kVGroI dcGroI pmGroI cdGroI ctGroI : Value} {odGroI anGroI : Option Addr} {slGroI : Array (Option Value)}
    {ocGroB kVGroB dcGroB pmGroB cdGroB ctGroB : Value} {odGroB anGroB : Option Addr} {slGroB : Array (Option Value)}
    {ocKeeI kVKeeI dcKeeI pmKeeI cdKeeI ctKeeI : Value} {odKeeI anKeeI : Option Addr} {slKeeI : Array (Option Value)}
    {ocKeeB kVKeeB dcKeeB pmKeeB cdKeeB ctKeeB : Value} {odKeeB anKeeB : Option Addr} {slKeeB : Array (Option Value)}
    {ocRatI kVRatI dcRatI pmRatI cdRatI ctRatI : Value} {odRatI anRatI : Option Addr} {slRatI : Array (Option Value)}
    {ocShows kVShows dcShows pmShows cdShows ctShows : Value} {odShows anShows : Option Addr} {slShows : Array (Option Value)}
    {ocNum kVNum dcNum pmNum cdNum ctNum : Value} {odNum anNum : Option Addr} {slNum : Array (Option Value)}
    {ocAre kVAre dcAre pmAre cdAre ctAre : Value} {odAre anAre : Option Addr} {slAre : Array (Option Value)}
    {ocAt kVAt dcAt pmAt cdAt ctAt : Value} {odAt anAt : Option Addr} {slAt : Array (Option Value)}
    {ocFront kVFront dcFront pmFront cdFront ctFront : Value} {odFront anFront : Option Addr} {slFront : Array (Option Value)}
    {ocPer kVPer dcPer pmPer cdPer ctPer : Value} {odPer anPer : Option Addr} {slPer : Array (Option Value)}
    {ocCheck kVCheck dcCheck pmCheck cdCheck ctCheck : Value} {odCheck anCheck : Option Addr} {slCheck : Array (Option Value)}
    {ocGL kVGL dcGL pmGL cdGL ctGL : Value} {odGL anGL : Option Addr} {slGL : Array (Option Value)}
    {ocGrow kVGrow dcGrow pmGrow cdGrow ctGrow : Value} {odGrow anGrow : Option Addr} {slGrow : Array (Option Value)}
    {ocTicks kVTicks dcTicks pmTicks cdTicks ctTicks : Value} {odTicks anTicks : Option Addr} {slTicks : Array (Option Value)}
    {ocLags kVLags dcLags pmLags cdLags ctLags : Value} {odLags anLags : Option Addr} {slLags : Array (Option Value)}
    {ocFrom kVFrom dcFrom pmFrom cdFrom ctFrom : Value} {odFrom anFrom : Option Addr} {slFrom : Array (Option Value)}
    {ocAfter kVAfter dcAfter pmAfter cdAfter ctAfter : Value} {odAfter anAfter : Option Addr} {slAfter : Array (Option Value)}
    {ocAhead kVAhead dcAhead pmAhead cdAhead ctAhead : Value} {odAhead anAhead : Option Addr} {slAhead : Array (Option Value)}
    {ocKeep kVKeep dcKeep pmKeep cdKeep ctKeep : Value} {odKeep anKeep : Option Addr} {slKeep : Array (Option Value)}
    {ocWait kVWait dcWait pmWait cdWait ctWait : Value} {odWait anWait : Option Addr} {slWait : Array (Option Value)}
    {ocAsked kVAsked dcAsked pmAsked cdAsked ctAsked : Value} {odAsked anAsked : Option Addr} {slAsked : Array (Option Value)}
    {ocSteady kVSteady dcSteady pmSteady cdSteady ctSteady : Value} {odSteady anSteady : Option Addr} {slSteady : Array (Option Value)}
    {ocEnough kVEnough dcEnough pmEnough cdEnough ctEnough : Value} {odEnough anEnough : Option Addr} {slEnough : Array (Option Value)}
    {ocRate kVRate dcRate pmRate cdRate ctRate : Value} {odRate anRate : Option Addr} {slRate : Array (Option Value)}
    {ocBeyond kVBeyond dcBeyond pmBeyond cdBeyond ctBeyond : Value} {odBeyond anBeyond : Option Addr} {slBeyond : Array (Option Value)}
    {ocNumber kVNumber dcNumber pmNumber cdNumber ctNumber : Value} {odNumber anNumber : Option Addr} {slNumber : Array (Option Value)}
    {ocTake kVTake dcTake pmTake cdTake ctTake : Value} {odTake anTake : Option Addr} {slTake : Array (Option Value)}
    {ocRow kVRow dcRow pmRow cdRow ctRow : Value} {odRow anRow : Option Addr} {slRow : Array (Option Value)}
    {ocLAt kVLAt dcLAt pmLAt cdLAt ctLAt : Value} {odLAt anLAt : Option Addr} {slLAt : Array (Option Value)}
    {ocWaits kVWaits dcWaits pmWaits cdWaits ctWaits : Value} {odWaits anWaits : Option Addr} {slWaits : Array (Option Value)}
    {ocIsRef kVIsRef dcIsRef pmIsRef cdIsRef ctIsRef : Value} {odIsRef anIsRef : Option Addr} {slIsRef : Array (Option Value)}
    {ocRight kVRight dcRight pmRight cdRight ctRight : Value} {odRight anRight : Option Addr} {slRight : Array (Option Value)}
    {ocRefd kVRefd dcRefd pmRefd  ctRefd : Value} {odRefd anRefd : Option Addr} {slRefd : Array (Option Value)}
    {ocLaw kVLaw dcLaw pmLaw cdLaw ctLaw : Value} {odLaw anLaw : Option Addr} {slLaw : Array (Option Value)}
    {eR : Value} {ddR : Option Addr} {vsR : Array Value} {slR : Array (Option Value)}
    {tMOST_TICKS : Nat}
    {tMOST_ROWS : Nat}
    {tMOST_BOUND : Nat}
    (X : K.In h) (G : h.Ns mainGlobals mg) (hfa : mg "law" = some (.ref fa))
    (gT : PySem.W.nsIn K mainGlobals "Times" = some (some (.ref CT)))
    (pgT : PySem.W.plainGet K CT Str.empty = true)
    (hdT : PySem.W.hasDictIn K CT = true)
    (poT : PySem.W.plainOver K CT = true)
    (saT : PySem.W.findIn K (.ref CT) "__setattr__" = some (some (.builtin "object.__setattr__")))
    (mkT : PySem.W.makesIn K CT = true)
    (kcT : PySem.W.keepIn K (.ref CT) = true)
    (haT : PySem.W.findIn K (.ref CT) "__class__" = some (some (.builtin "object.__class__")))
    (obT : PySem.W.mroIn K CT (.type "object") = some true)
    (nTfront : PySem.W.findIn K (.ref CT) "front" = some none)
    (nTperiod : PySem.W.findIn K (.ref CT) "period" = some none)
    (gL : PySem.W.nsIn K mainGlobals "Lag" = some (some (.ref CL)))
    (pgL : PySem.W.plainGet K CL Str.empty = true)
    (hdL : PySem.W.hasDictIn K CL = true)
    (poL : PySem.W.plainOver K CL = true)
    (saL : PySem.W.findIn K (.ref CL) "__setattr__" = some (some (.builtin "object.__setattr__")))
    (mkL : PySem.W.makesIn K CL = true)
    (kcL : PySem.W.keepIn K (.ref CL) = true)
    (haL : PySem.W.findIn K (.ref CL) "__class__" = some (some (.builtin "object.__class__")))
    (obL : PySem.W.mroIn K CL (.type "object") = some true)
    (nLnumber : PySem.W.findIn K (.ref CL) "number" = some none)
    (nLtick : PySem.W.findIn K (.ref CL) "tick" = some none)
    (gG : PySem.W.nsIn K mainGlobals "Growing" = some (some (.ref CG)))
    (pgG : PySem.W.plainGet K CG Str.empty = true)
    (hdG : PySem.W.hasDictIn K CG = true)
    (poG : PySem.W.plainOver K CG = true)
    (saG : PySem.W.findIn K (.ref CG) "__setattr__" = some (some (.builtin "object.__setattr__")))
    (mkG : PySem.W.makesIn K CG = true)
    (kcG : PySem.W.keepIn K (.ref CG) = true)
    (haG : PySem.W.findIn K (.ref CG) "__class__" = some (some (.builtin "object.__class__")))
    (obG : PySem.W.mroIn K CG (.type "object") = some true)
    (nGperiod : PySem.W.findIn K (.ref CG) "period" = some none)
    (nGgrowth : PySem.W.findIn K (.ref CG) "growth" = some none)
    (gP : PySem.W.nsIn K mainGlobals "Keep" = some (some (.ref CP)))
    (pgP : PySem.W.plainGet K CP Str.empty = true)
    (hdP : PySem.W.hasDictIn K CP = true)
    (poP : PySem.W.plainOver K CP = true)
    (saP : PySem.W.findIn K (.ref CP) "__setattr__" = some (some (.builtin "object.__setattr__")))
    (mkP : PySem.W.makesIn K CP = true)
    (kcP : PySem.W.keepIn K (.ref CP) = true)
    (haP : PySem.W.findIn K (.ref CP) "__class__" = some (some (.builtin "object.__class__")))
    (obP : PySem.W.mroIn K CP (.type "object") = some true)
    (nProws : PySem.W.findIn K (.ref CP) "rows" = some none)
    (nPtick : PySem.W.findIn K (.ref CP) "tick" = some none)
    (nPgroup : PySem.W.findIn K (.ref CP) "group" = some none)
    (gR : PySem.W.nsIn K mainGlobals "Rate" = some (some (.ref CR)))
    (pgR : PySem.W.plainGet K CR Str.empty = true)
    (hdR : PySem.W.hasDictIn K CR = true)
    (poR : PySem.W.plainOver K CR = true)
    (saR : PySem.W.findIn K (.ref CR) "__setattr__" = some (some (.builtin "object.__setattr__")))
    (mkR : PySem.W.makesIn K CR = true)
    (kcR : PySem.W.keepIn K (.ref CR) = true)
    (haR : PySem.W.findIn K (.ref CR) "__class__" = some (some (.builtin "object.__class__")))
    (obR : PySem.W.mroIn K CR (.type "object") = some true)
    (nRnumber : PySem.W.findIn K (.ref CR) "number" = some none)
    (nRtick : PySem.W.findIn K (.ref CR) "tick" = some none)
    (hnO : PySem.W.specialIn K (.builtin "object.__class__") "__get__" = some (some (.builtin "getset_descriptor.__get__")))
    (htO : PySem.W.takesIn K (.builtin "object.__class__") = some true)
    (ttT : PySem.W.typeIn K (.ref CT) = some (.type "type"))
    (noT : PySem.W.subIn K (.type "NoneType") (.ref CT) = some false)
    (lsT : PySem.W.subIn K (.type "list") (.ref CT) = some false)
    (gB : PySem.W.nsIn K mainGlobals "BadTimes" = some (some (.ref CB)))
    (gX : PySem.W.nsIn K mainGlobals "BrokerError" = some (some (.ref CX)))
    (xB : PySem.W.excIn K CB [.type "ValueError", .type "Exception", .type "BaseException", .type "object"] "ValueError.__new__" = true)
    (kcB : PySem.W.keepIn K (.ref CB) = true)
    (bB : PySem.W.subIn K (.ref CB) (.type "BaseException") = some true)
    (tB : PySem.W.typeIn K (.ref CB) = some (.type "type"))
    (gaB : PySem.W.findIn K (.ref CB) "__getattribute__" = some (some (.builtin "BaseException.__getattribute__")))
    (ggB : PySem.W.findIn K (.ref CB) "__getattr__" = some none)
    (hdB : PySem.W.hasDictIn K CB = true)
    (haB : PySem.W.findIn K (.ref CB) "__class__" = some (some (.builtin "object.__class__")))
    (obB : PySem.W.mroIn K CB (.type "object") = some true)
    (sB : PySem.W.subIn K (.ref CB) (.ref CB) = some true)
    (hdX : PySem.W.hasDictIn K CX = true)
    (tX : PySem.W.typeIn K (.ref CX) = some (.type "type"))
    (sX : PySem.W.subIn K (.ref CB) (.ref CX) = some true)
    (aTI : PySem.W.findIn K (.ref CT) "__init__" = some (some (.ref fTI)))
    (iTI : PySem.W.isFn K (.ref fTI) = true)
    (lTI : K.lookup fTI = some ⟨ocTI, odTI, .func (PySem.W.fnOf "__init__" "Times.__init__" (defArgs sTI) (defBody sTI) (defScope sTI) .none kVTI dcTI pmTI anTI cdTI ctTI), slTI⟩)
    (cTI : PySem.W.codeIn K cdTI "Times.__init__" = true)
    (kTI : PySem.W.keepIn K (.ref fTI) = true)
    (aTAt : PySem.W.findIn K (.ref CT) "at" = some (some (.ref fTAt)))
    (iTAt : PySem.W.isFn K (.ref fTAt) = true)
    (lTAt : K.lookup fTAt = some ⟨ocTAt, odTAt, .func (PySem.W.fnOf "at" "Times.at" (defArgs sTAt) (defBody sTAt) (defScope sTAt) .none kVTAt dcTAt pmTAt anTAt cdTAt ctTAt), slTAt⟩)
    (cTAt : PySem.W.codeIn K cdTAt "Times.at" = true)
    (kTAt : PySem.W.keepIn K (.ref fTAt) = true)
    (aUp : PySem.W.findIn K (.ref CT) "up_to" = some (some (.ref fUp)))
    (iUp : PySem.W.isFn K (.ref fUp) = true)
    (lUp : K.lookup fUp = some ⟨ocUp, odUp, .func (PySem.W.fnOf "up_to" "Times.up_to" (defArgs sUp) (defBody sUp) (defScope sUp) .none kVUp dcUp pmUp anUp cdUp ctUp), slUp⟩)
    (cUp : PySem.W.codeIn K cdUp "Times.up_to" = true)
    (kUp : PySem.W.keepIn K (.ref fUp) = true)
    (aLagI : PySem.W.findIn K (.ref CL) "__init__" = some (some (.ref fLagI)))
    (iLagI : PySem.W.isFn K (.ref fLagI) = true)
    (lLagI : K.lookup fLagI = some ⟨ocLagI, odLagI, .func (PySem.W.fnOf "__init__" "Lag.__init__" (defArgs sLagI) (defBody sLagI) (defScope sLagI) .none kVLagI dcLagI pmLagI anLagI cdLagI ctLagI), slLagI⟩)
    (cLagI : PySem.W.codeIn K cdLagI "Lag.__init__" = true)
    (kLagI : PySem.W.keepIn K (.ref fLagI) = true)
    (aLagB : PySem.W.findIn K (.ref CL) "__bool__" = some (some (.ref fLagB)))
    (iLagB : PySem.W.isFn K (.ref fLagB) = true)
    (lLagB : K.lookup fLagB = some ⟨ocLagB, odLagB, .func (PySem.W.fnOf "__bool__" "Lag.__bool__" (defArgs sLagB) (defBody sLagB) (defScope sLagB) .none kVLagB dcLagB pmLagB anLagB cdLagB ctLagB), slLagB⟩)
    (cLagB : PySem.W.codeIn K cdLagB "Lag.__bool__" = true)
    (kLagB : PySem.W.keepIn K (.ref fLagB) = true)
    (aGroI : PySem.W.findIn K (.ref CG) "__init__" = some (some (.ref fGroI)))
    (iGroI : PySem.W.isFn K (.ref fGroI) = true)
    (lGroI : K.lookup fGroI = some ⟨ocGroI, odGroI, .func (PySem.W.fnOf "__init__" "Growing.__init__" (defArgs sGroI) (defBody sGroI) (defScope sGroI) .none kVGroI dcGroI pmGroI anGroI cdGroI ctGroI), slGroI⟩)
    (cGroI : PySem.W.codeIn K cdGroI "Growing.__init__" = true)
    (kGroI : PySem.W.keepIn K (.ref fGroI) = true)
    (aGroB : PySem.W.findIn K (.ref CG) "__bool__" = some (some (.ref fGroB)))
    (iGroB : PySem.W.isFn K (.ref fGroB) = true)
    (lGroB : K.lookup fGroB = some ⟨ocGroB, odGroB, .func (PySem.W.fnOf "__bool__" "Growing.__bool__" (defArgs sGroB) (defBody sGroB) (defScope sGroB) .none kVGroB dcGroB pmGroB anGroB cdGroB ctGroB), slGroB⟩)
    (cGroB : PySem.W.codeIn K cdGroB "Growing.__bool__" = true)
    (kGroB : PySem.W.keepIn K (.ref fGroB) = true)
    (aKeeI : PySem.W.findIn K (.ref CP) "__init__" = some (some (.ref fKeeI)))
    (iKeeI : PySem.W.isFn K (.ref fKeeI) = true)
    (lKeeI : K.lookup fKeeI = some ⟨ocKeeI, odKeeI, .func (PySem.W.fnOf "__init__" "Keep.__init__" (defArgs sKeeI) (defBody sKeeI) (defScope sKeeI) .none kVKeeI dcKeeI pmKeeI anKeeI cdKeeI ctKeeI), slKeeI⟩)
    (cKeeI : PySem.W.codeIn K cdKeeI "Keep.__init__" = true)
    (kKeeI : PySem.W.keepIn K (.ref fKeeI) = true)
    (aKeeB : PySem.W.findIn K (.ref CP) "__bool__" = some (some (.ref fKeeB)))
    (iKeeB : PySem.W.isFn K (.ref fKeeB) = true)
    (lKeeB : K.lookup fKeeB = some ⟨ocKeeB, odKeeB, .func (PySem.W.fnOf "__bool__" "Keep.__bool__" (defArgs sKeeB) (defBody sKeeB) (defScope sKeeB) .none kVKeeB dcKeeB pmKeeB anKeeB cdKeeB ctKeeB), slKeeB⟩)
    (cKeeB : PySem.W.codeIn K cdKeeB "Keep.__bool__" = true)
    (kKeeB : PySem.W.keepIn K (.ref fKeeB) = true)
    (aRatI : PySem.W.findIn K (.ref CR) "__init__" = some (some (.ref fRatI)))
    (iRatI : PySem.W.isFn K (.ref fRatI) = true)
    (lRatI : K.lookup fRatI = some ⟨ocRatI, odRatI, .func (PySem.W.fnOf "__init__" "Rate.__init__" (defArgs sRatI) (defBody sRatI) (defScope sRatI) .none kVRatI dcRatI pmRatI anRatI cdRatI ctRatI), slRatI⟩)
    (cRatI : PySem.W.codeIn K cdRatI "Rate.__init__" = true)
    (kRatI : PySem.W.keepIn K (.ref fRatI) = true)
    (aShows : PySem.W.findIn K (.ref CR) "shows" = some (some (.ref fShows)))
    (iShows : PySem.W.isFn K (.ref fShows) = true)
    (lShows : K.lookup fShows = some ⟨ocShows, odShows, .func (PySem.W.fnOf "shows" "Rate.shows" (defArgs sShows) (defBody sShows) (defScope sShows) .none kVShows dcShows pmShows anShows cdShows ctShows), slShows⟩)
    (cShows : PySem.W.codeIn K cdShows "Rate.shows" = true)
    (kShows : PySem.W.keepIn K (.ref fShows) = true)
    (aNum : PySem.W.nsIn K mainGlobals "is_number" = some (some (.ref fNum)))
    (lNum : K.lookup fNum = some ⟨ocNum, odNum, .func (PySem.W.fnOf "is_number" "is_number" (defArgs sNum) (defBody sNum) (defScope sNum) .none kVNum dcNum pmNum anNum cdNum ctNum), slNum⟩)
    (cNum : PySem.W.codeIn K cdNum "is_number" = true)
    (kNum : PySem.W.keepIn K (.ref fNum) = true)
    (aAre : PySem.W.nsIn K mainGlobals "are_numbers" = some (some (.ref fAre)))
    (lAre : K.lookup fAre = some ⟨ocAre, odAre, .func (PySem.W.fnOf "are_numbers" "are_numbers" (defArgs sAre) (defBody sAre) (defScope sAre) .none kVAre dcAre pmAre anAre cdAre ctAre), slAre⟩)
    (cAre : PySem.W.codeIn K cdAre "are_numbers" = true)
    (kAre : PySem.W.keepIn K (.ref fAre) = true)
    (aAt : PySem.W.nsIn K mainGlobals "number_at" = some (some (.ref fAt)))
    (lAt : K.lookup fAt = some ⟨ocAt, odAt, .func (PySem.W.fnOf "number_at" "number_at" (defArgs sAt) (defBody sAt) (defScope sAt) .none kVAt dcAt pmAt anAt cdAt ctAt), slAt⟩)
    (cAt : PySem.W.codeIn K cdAt "number_at" = true)
    (kAt : PySem.W.keepIn K (.ref fAt) = true)
    (aFront : PySem.W.nsIn K mainGlobals "common_front" = some (some (.ref fFront)))
    (lFront : K.lookup fFront = some ⟨ocFront, odFront, .func (PySem.W.fnOf "common_front" "common_front" (defArgs sFront) (defBody sFront) (defScope sFront) .none kVFront dcFront pmFront anFront cdFront ctFront), slFront⟩)
    (cFront : PySem.W.codeIn K cdFront "common_front" = true)
    (kFront : PySem.W.keepIn K (.ref fFront) = true)
    (aPer : PySem.W.nsIn K mainGlobals "common_period" = some (some (.ref fPer)))
    (lPer : K.lookup fPer = some ⟨ocPer, odPer, .func (PySem.W.fnOf "common_period" "common_period" (defArgs sPer) (defBody sPer) (defScope sPer) .none kVPer dcPer pmPer anPer cdPer ctPer), slPer⟩)
    (cPer : PySem.W.codeIn K cdPer "common_period" = true)
    (kPer : PySem.W.keepIn K (.ref fPer) = true)
    (aCheck : PySem.W.nsIn K mainGlobals "check_times" = some (some (.ref fCheck)))
    (lCheck : K.lookup fCheck = some ⟨ocCheck, odCheck, .func (PySem.W.fnOf "check_times" "check_times" (defArgs sCheck) (defBody sCheck) (defScope sCheck) .none kVCheck dcCheck pmCheck anCheck cdCheck ctCheck), slCheck⟩)
    (cCheck : PySem.W.codeIn K cdCheck "check_times" = true)
    (kCheck : PySem.W.keepIn K (.ref fCheck) = true)
    (aGL : PySem.W.nsIn K mainGlobals "greatest_lag" = some (some (.ref fGL)))
    (lGL : K.lookup fGL = some ⟨ocGL, odGL, .func (PySem.W.fnOf "greatest_lag" "greatest_lag" (defArgs sGL) (defBody sGL) (defScope sGL) .none kVGL dcGL pmGL anGL cdGL ctGL), slGL⟩)
    (cGL : PySem.W.codeIn K cdGL "greatest_lag" = true)
    (kGL : PySem.W.keepIn K (.ref fGL) = true)
    (aGrow : PySem.W.nsIn K mainGlobals "growth_of" = some (some (.ref fGrow)))
    (lGrow : K.lookup fGrow = some ⟨ocGrow, odGrow, .func (PySem.W.fnOf "growth_of" "growth_of" (defArgs sGrow) (defBody sGrow) (defScope sGrow) .none kVGrow dcGrow pmGrow anGrow cdGrow ctGrow), slGrow⟩)
    (cGrow : PySem.W.codeIn K cdGrow "growth_of" = true)
    (kGrow : PySem.W.keepIn K (.ref fGrow) = true)
    (aTicks : PySem.W.nsIn K mainGlobals "enough_ticks" = some (some (.ref fTicks)))
    (lTicks : K.lookup fTicks = some ⟨ocTicks, odTicks, .func (PySem.W.fnOf "enough_ticks" "enough_ticks" (defArgs sTicks) (defBody sTicks) (defScope sTicks) .none kVTicks dcTicks pmTicks anTicks cdTicks ctTicks), slTicks⟩)
    (cTicks : PySem.W.codeIn K cdTicks "enough_ticks" = true)
    (kTicks : PySem.W.keepIn K (.ref fTicks) = true)
    (aLags : PySem.W.nsIn K mainGlobals "lags" = some (some (.ref fLags)))
    (lLags : K.lookup fLags = some ⟨ocLags, odLags, .func (PySem.W.fnOf "lags" "lags" (defArgs sLags) (defBody sLags) (defScope sLags) .none kVLags dcLags pmLags anLags cdLags ctLags), slLags⟩)
    (cLags : PySem.W.codeIn K cdLags "lags" = true)
    (kLags : PySem.W.keepIn K (.ref fLags) = true)
    (aFrom : PySem.W.nsIn K mainGlobals "lags_from" = some (some (.ref fFrom)))
    (lFrom : K.lookup fFrom = some ⟨ocFrom, odFrom, .func (PySem.W.fnOf "lags_from" "lags_from" (defArgs sFrom) (defBody sFrom) (defScope sFrom) .none kVFrom dcFrom pmFrom anFrom cdFrom ctFrom), slFrom⟩)
    (cFrom : PySem.W.codeIn K cdFrom "lags_from" = true)
    (kFrom : PySem.W.keepIn K (.ref fFrom) = true)
    (aAfter : PySem.W.nsIn K mainGlobals "lag_after" = some (some (.ref fAfter)))
    (lAfter : K.lookup fAfter = some ⟨ocAfter, odAfter, .func (PySem.W.fnOf "lag_after" "lag_after" (defArgs sAfter) (defBody sAfter) (defScope sAfter) .none kVAfter dcAfter pmAfter anAfter cdAfter ctAfter), slAfter⟩)
    (cAfter : PySem.W.codeIn K cdAfter "lag_after" = true)
    (kAfter : PySem.W.keepIn K (.ref fAfter) = true)
    (aAhead : PySem.W.nsIn K mainGlobals "lag_ahead" = some (some (.ref fAhead)))
    (lAhead : K.lookup fAhead = some ⟨ocAhead, odAhead, .func (PySem.W.fnOf "lag_ahead" "lag_ahead" (defArgs sAhead) (defBody sAhead) (defScope sAhead) .none kVAhead dcAhead pmAhead anAhead cdAhead ctAhead), slAhead⟩)
    (cAhead : PySem.W.codeIn K cdAhead "lag_ahead" = true)
    (kAhead : PySem.W.keepIn K (.ref fAhead) = true)
    (aKeep : PySem.W.nsIn K mainGlobals "least_keeping" = some (some (.ref fKeep)))
    (lKeep : K.lookup fKeep = some ⟨ocKeep, odKeep, .func (PySem.W.fnOf "least_keeping" "least_keeping" (defArgs sKeep) (defBody sKeep) (defScope sKeep) .none kVKeep dcKeep pmKeep anKeep cdKeep ctKeep), slKeep⟩)
    (cKeep : PySem.W.codeIn K cdKeep "least_keeping" = true)
    (kKeep : PySem.W.keepIn K (.ref fKeep) = true)
    (aWait : PySem.W.nsIn K mainGlobals "waiting_rows" = some (some (.ref fWait)))
    (lWait : K.lookup fWait = some ⟨ocWait, odWait, .func (PySem.W.fnOf "waiting_rows" "waiting_rows" (defArgs sWait) (defBody sWait) (defScope sWait) .none kVWait dcWait pmWait anWait cdWait ctWait), slWait⟩)
    (cWait : PySem.W.codeIn K cdWait "waiting_rows" = true)
    (kWait : PySem.W.keepIn K (.ref fWait) = true)
    (aAsked : PySem.W.nsIn K mainGlobals "check_asked" = some (some (.ref fAsked)))
    (lAsked : K.lookup fAsked = some ⟨ocAsked, odAsked, .func (PySem.W.fnOf "check_asked" "check_asked" (defArgs sAsked) (defBody sAsked) (defScope sAsked) .none kVAsked dcAsked pmAsked anAsked cdAsked ctAsked), slAsked⟩)
    (cAsked : PySem.W.codeIn K cdAsked "check_asked" = true)
    (kAsked : PySem.W.keepIn K (.ref fAsked) = true)
    (aSteady : PySem.W.nsIn K mainGlobals "steady" = some (some (.ref fSteady)))
    (lSteady : K.lookup fSteady = some ⟨ocSteady, odSteady, .func (PySem.W.fnOf "steady" "steady" (defArgs sSteady) (defBody sSteady) (defScope sSteady) .none kVSteady dcSteady pmSteady anSteady cdSteady ctSteady), slSteady⟩)
    (cSteady : PySem.W.codeIn K cdSteady "steady" = true)
    (kSteady : PySem.W.keepIn K (.ref fSteady) = true)
    (aEnough : PySem.W.nsIn K mainGlobals "is_enough" = some (some (.ref fEnough)))
    (lEnough : K.lookup fEnough = some ⟨ocEnough, odEnough, .func (PySem.W.fnOf "is_enough" "is_enough" (defArgs sEnough) (defBody sEnough) (defScope sEnough) .none kVEnough dcEnough pmEnough anEnough cdEnough ctEnough), slEnough⟩)
    (cEnough : PySem.W.codeIn K cdEnough "is_enough" = true)
    (kEnough : PySem.W.keepIn K (.ref fEnough) = true)
    (aRate : PySem.W.nsIn K mainGlobals "least_rate" = some (some (.ref fRate)))
    (lRate : K.lookup fRate = some ⟨ocRate, odRate, .func (PySem.W.fnOf "least_rate" "least_rate" (defArgs sRate) (defBody sRate) (defScope sRate) .none kVRate dcRate pmRate anRate cdRate ctRate), slRate⟩)
    (cRate : PySem.W.codeIn K cdRate "least_rate" = true)
    (kRate : PySem.W.keepIn K (.ref fRate) = true)
    (aBeyond : PySem.W.nsIn K mainGlobals "first_beyond" = some (some (.ref fBeyond)))
    (lBeyond : K.lookup fBeyond = some ⟨ocBeyond, odBeyond, .func (PySem.W.fnOf "first_beyond" "first_beyond" (defArgs sBeyond) (defBody sBeyond) (defScope sBeyond) .none kVBeyond dcBeyond pmBeyond anBeyond cdBeyond ctBeyond), slBeyond⟩)
    (cBeyond : PySem.W.codeIn K cdBeyond "first_beyond" = true)
    (kBeyond : PySem.W.keepIn K (.ref fBeyond) = true)
    (aNumber : PySem.W.nsIn K mainGlobals "_law_number" = some (some (.ref fNumber)))
    (lNumber : K.lookup fNumber = some ⟨ocNumber, odNumber, .func (PySem.W.fnOf "_law_number" "_law_number" (defArgs sNumber) (defBody sNumber) (defScope sNumber) .none kVNumber dcNumber pmNumber anNumber cdNumber ctNumber), slNumber⟩)
    (cNumber : PySem.W.codeIn K cdNumber "_law_number" = true)
    (kNumber : PySem.W.keepIn K (.ref fNumber) = true)
    (aTake : PySem.W.nsIn K mainGlobals "_law_take" = some (some (.ref fTake)))
    (lTake : K.lookup fTake = some ⟨ocTake, odTake, .func (PySem.W.fnOf "_law_take" "_law_take" (defArgs sTake) (defBody sTake) (defScope sTake) .none kVTake dcTake pmTake anTake cdTake ctTake), slTake⟩)
    (cTake : PySem.W.codeIn K cdTake "_law_take" = true)
    (kTake : PySem.W.keepIn K (.ref fTake) = true)
    (aRow : PySem.W.nsIn K mainGlobals "_law_row" = some (some (.ref fRow)))
    (lRow : K.lookup fRow = some ⟨ocRow, odRow, .func (PySem.W.fnOf "_law_row" "_law_row" (defArgs sRow) (defBody sRow) (defScope sRow) .none kVRow dcRow pmRow anRow cdRow ctRow), slRow⟩)
    (cRow : PySem.W.codeIn K cdRow "_law_row" = true)
    (kRow : PySem.W.keepIn K (.ref fRow) = true)
    (aLAt : PySem.W.nsIn K mainGlobals "_law_at" = some (some (.ref fLAt)))
    (lLAt : K.lookup fLAt = some ⟨ocLAt, odLAt, .func (PySem.W.fnOf "_law_at" "_law_at" (defArgs sLAt) (defBody sLAt) (defScope sLAt) .none kVLAt dcLAt pmLAt anLAt cdLAt ctLAt), slLAt⟩)
    (cLAt : PySem.W.codeIn K cdLAt "_law_at" = true)
    (kLAt : PySem.W.keepIn K (.ref fLAt) = true)
    (aWaits : PySem.W.nsIn K mainGlobals "_law_waits" = some (some (.ref fWaits)))
    (lWaits : K.lookup fWaits = some ⟨ocWaits, odWaits, .func (PySem.W.fnOf "_law_waits" "_law_waits" (defArgs sWaits) (defBody sWaits) (defScope sWaits) .none kVWaits dcWaits pmWaits anWaits cdWaits ctWaits), slWaits⟩)
    (cWaits : PySem.W.codeIn K cdWaits "_law_waits" = true)
    (kWaits : PySem.W.keepIn K (.ref fWaits) = true)
    (aIsRef : PySem.W.nsIn K mainGlobals "_law_is_refused" = some (some (.ref fIsRef)))
    (lIsRef : K.lookup fIsRef = some ⟨ocIsRef, odIsRef, .func (PySem.W.fnOf "_law_is_refused" "_law_is_refused" (defArgs sIsRef) (defBody sIsRef) (defScope sIsRef) .none kVIsRef dcIsRef pmIsRef anIsRef cdIsRef ctIsRef), slIsRef⟩)
    (cIsRef : PySem.W.codeIn K cdIsRef "_law_is_refused" = true)
    (kIsRef : PySem.W.keepIn K (.ref fIsRef) = true)
    (aRight : PySem.W.nsIn K mainGlobals "_law_rate_right" = some (some (.ref fRight)))
    (lRight : K.lookup fRight = some ⟨ocRight, odRight, .func (PySem.W.fnOf "_law_rate_right" "_law_rate_right" (defArgs sRight) (defBody sRight) (defScope sRight) .none kVRight dcRight pmRight anRight cdRight ctRight), slRight⟩)
    (cRight : PySem.W.codeIn K cdRight "_law_rate_right" = true)
    (kRight : PySem.W.keepIn K (.ref fRight) = true)
    (aRefd : PySem.W.nsIn K mainGlobals "_law_refused" = some (some (.ref fRefd)))
    (lRefd : K.lookup fRefd = some ⟨ocRefd, odRefd, .func (PySem.W.fnOf "_law_refused" "_law_refused" (defArgs sRefd) (defBody sRefd) (defScope sRefd) .none kVRefd dcRefd pmRefd anRefd (.ref cc) ctRefd), slRefd⟩)
    (cRefd : PySem.W.codeIn K (.ref cc) "_law_refused" = true)
    (kRefd : PySem.W.keepIn K (.ref fRefd) = true)
    (aLaw : PySem.W.nsIn K mainGlobals "law" = some (some (.ref fLaw)))
    (lLaw : K.lookup fLaw = some ⟨ocLaw, odLaw, .func (PySem.W.fnOf "law" "law" (defArgs sLaw) (defBody sLaw) (defScope sLaw) .none kVLaw dcLaw pmLaw anLaw cdLaw ctLaw), slLaw⟩)
    (cLaw : PySem.W.codeIn K cdLaw "law" = true)
    (kLaw : PySem.W.keepIn K (.ref fLaw) = true)
    (dR : K.lookup cc = some ⟨eR, ddR, .fields vsR, slR⟩)
    (vR : vsR[11]? = some (.ref PP))
    (hTab : h.get? PP = some { cls := .none, data := .fields #[] })
    (nTab : K.lookup PP = none)
    (hCode : PySem.W.CodeHd h cc PP)
    (z_type : PySem.W.nsIn K mainGlobals "type" = some none)
    (z_int : PySem.W.nsIn K mainGlobals "int" = some none)
    (z_bool : PySem.W.nsIn K mainGlobals "bool" = some none)
    (z_len : PySem.W.nsIn K mainGlobals "len" = some none)
    (z_list : PySem.W.nsIn K mainGlobals "list" = some none)
    (z_tuple : PySem.W.nsIn K mainGlobals "tuple" = some none)
    (z_isinstance : PySem.W.nsIn K mainGlobals "isinstance" = some none)
    (z_all : PySem.W.nsIn K mainGlobals "all" = some none)
    (z_any : PySem.W.nsIn K mainGlobals "any" = some none)
    (z_max : PySem.W.nsIn K mainGlobals "max" = some none)
    (z_min : PySem.W.nsIn K mainGlobals "min" = some none)
    (z_sum : PySem.W.nsIn K mainGlobals "sum" = some none)
    (z_abs : PySem.W.nsIn K mainGlobals "abs" = some none)
    (z_range : PySem.W.nsIn K mainGlobals "range" = some none)
    (z_enumerate : PySem.W.nsIn K mainGlobals "enumerate" = some none)
    (z_sorted : PySem.W.nsIn K mainGlobals "sorted" = some none)
    (z_zip : PySem.W.nsIn K mainGlobals "zip" = some none)
    (z_divmod : PySem.W.nsIn K mainGlobals "divmod" = some none)
    (z_lcm : PySem.W.nsIn K mainGlobals "lcm" = some (some (.builtin "math.lcm")))
    (z_MOST_TICKS : PySem.W.nsIn K mainGlobals "MOST_TICKS" = some (some (.int 24 tMOST_TICKS)))
    (z_MOST_ROWS : PySem.W.nsIn K mainGlobals "MOST_ROWS" = some (some (.int 100 tMOST_ROWS)))
    (z_MOST_BOUND : PySem.W.nsIn K mainGlobals "MOST_BOUND" = some (some (.int 1000 tMOST_BOUND))) :
    ∃ (fd : FuncData) (cc PP : Addr), h.get? PP = some { cls := .none, data := .fields #[] } ∧ K.lookup PP = none ∧ PySem.W.CodeHd h cc PP ∧ (∀ (s : Shared) (u : Value), BindsTo s fd ⟨[u], []⟩ [("script", u)]) ∧ ∀ base : Heap, K.In base → base.Ns mainGlobals mg → TabB base mg cc PP → FnOk l.prog w K mg base CX0 11 fa fd ["script"] (spLaw K PP) := by
  have e := hfa.symm.trans (PySem.W.mg_of X G aLaw)
  cases e
  have w_type := PySem.W.mg_none_of X G z_type
  have w_int := PySem.W.mg_none_of X G z_int
  have w_bool := PySem.W.mg_none_of X G z_bool
  have w_len := PySem.W.mg_none_of X G z_len
  have w_list := PySem.W.mg_none_of X G z_list
  have w_tuple := PySem.W.mg_none_of X G z_tuple
  have w_isinstance := PySem.W.mg_none_of X G z_isinstance
  have w_all := PySem.W.mg_none_of X G z_all
  have w_any := PySem.W.mg_none_of X G z_any
  have w_max := PySem.W.mg_none_of X G z_max
  have w_min := PySem.W.mg_none_of X G z_min
  have w_sum := PySem.W.mg_none_of X G z_sum
  have w_abs := PySem.W.mg_none_of X G z_abs
  have w_range := PySem.W.mg_none_of X G z_range
  have w_enumerate := PySem.W.mg_none_of X G z_enumerate
  have w_sorted := PySem.W.mg_none_of X G z_sorted
  have w_zip := PySem.W.mg_none_of X G z_zip
  have w_divmod := PySem.W.mg_none_of X G z_divmod
  have m_lcm := PySem.W.mg_of X G z_lcm
  have m_MOST_TICKS := PySem.W.mg_of X G z_MOST_TICKS
  have m_MOST_ROWS := PySem.W.mg_of X G z_MOST_ROWS
  have m_MOST_BOUND := PySem.W.mg_of X G z_MOST_BOUND
  have m_T := PySem.W.mg_of X G gT
  have m_L := PySem.W.mg_of X G gL
  have m_G := PySem.W.mg_of X G gG
  have m_P := PySem.W.mg_of X G gP
  have m_R := PySem.W.mg_of X G gR
  have m_B := PySem.W.mg_of X G gB
  have m_X := PySem.W.mg_of X G gX
  have m_Num := PySem.W.mg_of X G aNum
  have m_Are := PySem.W.mg_of X G aAre
  have m_At := PySem.W.mg_of X G aAt
  have m_Front := PySem.W.mg_of X G aFront
  have m_Per := PySem.W.mg_of X G aPer
  have m_Check := PySem.W.mg_of X G aCheck
  have m_GL := PySem.W.mg_of X G aGL
  have m_Grow := PySem.W.mg_of X G aGrow
  have m_Ticks := PySem.W.mg_of X G aTicks
  have m_Lags := PySem.W.mg_of X G aLags
  have m_From := PySem.W.mg_of X G aFrom
  have m_After := PySem.W.mg_of X G aAfter
  have m_Ahead := PySem.W.mg_of X G aAhead
  have m_Keep := PySem.W.mg_of X G aKeep
  have m_Wait := PySem.W.mg_of X G aWait
  have m_Asked := PySem.W.mg_of X G aAsked
  have m_Steady := PySem.W.mg_of X G aSteady
  have m_Enough := PySem.W.mg_of X G aEnough
  have m_Rate := PySem.W.mg_of X G aRate
  have m_Beyond := PySem.W.mg_of X G aBeyond
  have m_Number := PySem.W.mg_of X G aNumber
  have m_Take := PySem.W.mg_of X G aTake
  have m_Row := PySem.W.mg_of X G aRow
  have m_LAt := PySem.W.mg_of X G aLAt
  have m_Waits := PySem.W.mg_of X G aWaits
  have m_IsRef := PySem.W.mg_of X G aIsRef
  have m_Right := PySem.W.mg_of X G aRight
  have m_Refd := PySem.W.mg_of X G aRefd
  have m_Law := PySem.W.mg_of X G aLaw
  have FTI := fun_mk (st := sTI) lTI cTI kTI
  have FTAt := fun_mk (st := sTAt) lTAt cTAt kTAt
  have FUp := fun_mk (st := sUp) lUp cUp kUp
  have FLagI := fun_mk (st := sLagI) lLagI cLagI kLagI
  have FLagB := fun_mk (st := sLagB) lLagB cLagB kLagB
  have FGroI := fun_mk (st := sGroI) lGroI cGroI kGroI
  have FGroB := fun_mk (st := sGroB) lGroB cGroB kGroB
  have FKeeI := fun_mk (st := sKeeI) lKeeI cKeeI kKeeI
  have FKeeB := fun_mk (st := sKeeB) lKeeB cKeeB kKeeB
  have FRatI := fun_mk (st := sRatI) lRatI cRatI kRatI
  have FShows := fun_mk (st := sShows) lShows cShows kShows
  have FNum := fun_mk (st := sNum) lNum cNum kNum
  have FAre := fun_mk (st := sAre) lAre cAre kAre
  have FAt := fun_mk (st := sAt) lAt cAt kAt
  have FFront := fun_mk (st := sFront) lFront cFront kFront
  have FPer := fun_mk (st := sPer) lPer cPer kPer
  have FCheck := fun_mk (st := sCheck) lCheck cCheck kCheck
  have FGL := fun_mk (st := sGL) lGL cGL kGL
  have FGrow := fun_mk (st := sGrow) lGrow cGrow kGrow
  have FTicks := fun_mk (st := sTicks) lTicks cTicks kTicks
  have FLags := fun_mk (st := sLags) lLags cLags kLags
  have FFrom := fun_mk (st := sFrom) lFrom cFrom kFrom
  have FAfter := fun_mk (st := sAfter) lAfter cAfter kAfter
  have FAhead := fun_mk (st := sAhead) lAhead cAhead kAhead
  have FKeep := fun_mk (st := sKeep) lKeep cKeep kKeep
  have FWait := fun_mk (st := sWait) lWait cWait kWait
  have FAsked := fun_mk (st := sAsked) lAsked cAsked kAsked
  have FSteady := fun_mk (st := sSteady) lSteady cSteady kSteady
  have FEnough := fun_mk (st := sEnough) lEnough cEnough kEnough
  have FRate := fun_mk (st := sRate) lRate cRate kRate
  have FBeyond := fun_mk (st := sBeyond) lBeyond cBeyond kBeyond
  have FNumber := fun_mk (st := sNumber) lNumber cNumber kNumber
  have FTake := fun_mk (st := sTake) lTake cTake kTake
  have FRow := fun_mk (st := sRow) lRow cRow kRow
  have FLAt := fun_mk (st := sLAt) lLAt cLAt kLAt
  have FWaits := fun_mk (st := sWaits) lWaits cWaits kWaits
  have FIsRef := fun_mk (st := sIsRef) lIsRef cIsRef kIsRef
  have FRight := fun_mk (st := sRight) lRight cRight kRight
  have FRefd := fun_mk (st := sRefd) lRefd cRefd kRefd
  have FLaw := fun_mk (st := sLaw) lLaw cLaw kLaw
  have bTI := FTI.binds (ps := ["self", "front", "period"]) fun _ _ _ _ _ _ us hl => match us, hl with | [_, _, _], _ => rfl
  have bTAt := FTAt.binds (ps := ["self", "tick"]) fun _ _ _ _ _ _ us hl => match us, hl with | [_, _], _ => rfl
  have bUp := FUp.binds (ps := ["self", "tick"]) fun _ _ _ _ _ _ us hl => match us, hl with | [_, _], _ => rfl
  have bLagI := FLagI.binds (ps := ["self", "number", "tick"]) fun _ _ _ _ _ _ us hl => match us, hl with | [_, _, _], _ => rfl
  have bLagB := FLagB.binds (ps := ["self"]) fun _ _ _ _ _ _ us hl => match us, hl with | [_], _ => rfl
  have bGroI := FGroI.binds (ps := ["self", "period", "growth"]) fun _ _ _ _ _ _ us hl => match us, hl with | [_, _, _], _ => rfl
  have bGroB := FGroB.binds (ps := ["self"]) fun _ _ _ _ _ _ us hl => match us, hl with | [_], _ => rfl
  have bKeeI := FKeeI.binds (ps := ["self", "rows", "tick", "group"]) fun _ _ _ _ _ _ us hl => match us, hl with | [_, _, _, _], _ => rfl
  have bKeeB := FKeeB.binds (ps := ["self"]) fun _ _ _ _ _ _ us hl => match us, hl with | [_], _ => rfl
  have bRatI := FRatI.binds (ps := ["self", "number", "tick"]) fun _ _ _ _ _ _ us hl => match us, hl with | [_, _, _], _ => rfl
  have bShows := FShows.binds (ps := ["self", "fed", "most"]) fun _ _ _ _ _ _ us hl => match us, hl with | [_, _, _], _ => rfl
  have bNum := FNum.binds (ps := ["value"]) fun _ _ _ _ _ _ us hl => match us, hl with | [_], _ => rfl
  have bAre := FAre.binds (ps := ["rows"]) fun _ _ _ _ _ _ us hl => match us, hl with | [_], _ => rfl
  have bAt := FAt.binds (ps := ["times", "tick"]) fun _ _ _ _ _ _ us hl => match us, hl with | [_, _], _ => rfl
  have bFront := FFront.binds (ps := ["one", "other"]) fun _ _ _ _ _ _ us hl => match us, hl with | [_, _], _ => rfl
  have bPer := FPer.binds (ps := ["one", "other"]) fun _ _ _ _ _ _ us hl => match us, hl with | [_, _], _ => rfl
  have bCheck := FCheck.binds (ps := ["times"]) fun _ _ _ _ _ _ us hl => match us, hl with | [_], _ => rfl
  have bGL := FGL.binds (ps := ["fed", "read"]) fun _ _ _ _ _ _ us hl => match us, hl with | [_, _], _ => rfl
  have bGrow := FGrow.binds (ps := ["fed", "read"]) fun _ _ _ _ _ _ us hl => match us, hl with | [_, _], _ => rfl
  have bTicks := FTicks.binds (ps := ["fed", "read"]) fun _ _ _ _ _ _ us hl => match us, hl with | [_, _], _ => rfl
  have bLags := FLags.binds (ps := ["fed", "read", "many"]) fun _ _ _ _ _ _ us hl => match us, hl with | [_, _, _], _ => rfl
  have bFrom := FFrom.binds (ps := ["fed", "read", "lag", "first", "many"]) fun _ _ _ _ _ _ us hl => match us, hl with | [_, _, _, _, _], _ => rfl
  have bAfter := FAfter.binds (ps := ["fed", "read", "lag", "first", "many"]) fun _ _ _ _ _ _ us hl => match us, hl with | [_, _, _, _, _], _ => rfl
  have bAhead := FAhead.binds (ps := ["fed", "read", "tick"]) fun _ _ _ _ _ _ us hl => match us, hl with | [_, _, _], _ => rfl
  have bKeep := FKeep.binds (ps := ["fed", "groups"]) fun _ _ _ _ _ _ us hl => match us, hl with | [_, _], _ => rfl
  have bWait := FWait.binds (ps := ["fed", "read", "many"]) fun _ _ _ _ _ _ us hl => match us, hl with | [_, _, _], _ => rfl
  have bAsked := FAsked.binds (ps := ["fed", "most"]) fun _ _ _ _ _ _ us hl => match us, hl with | [_, _], _ => rfl
  have bSteady := FSteady.binds (ps := ["number"]) fun _ _ _ _ _ _ us hl => match us, hl with | [_], _ => rfl
  have bEnough := FEnough.binds (ps := ["fed", "number", "most"]) fun _ _ _ _ _ _ us hl => match us, hl with | [_, _, _], _ => rfl
  have bRate := FRate.binds (ps := ["fed", "most"]) fun _ _ _ _ _ _ us hl => match us, hl with | [_, _], _ => rfl
  have bBeyond := FBeyond.binds (ps := ["fed", "number", "most"]) fun _ _ _ _ _ _ us hl => match us, hl with | [_, _, _], _ => rfl
  have bNumber := FNumber.binds (ps := ["script", "index"]) fun _ _ _ _ _ _ us hl => match us, hl with | [_, _], _ => rfl
  have bTake := FTake.binds (ps := ["draw", "many"]) fun _ _ _ _ _ _ us hl => match us, hl with | [_, _], _ => rfl
  have bRow := FRow.binds (ps := ["draw", "many", "most"]) fun _ _ _ _ _ _ us hl => match us, hl with | [_, _, _], _ => rfl
  have bLAt := FLAt.binds (ps := ["front", "period", "tick"]) fun _ _ _ _ _ _ us hl => match us, hl with | [_, _, _], _ => rfl
  have bWaits := FWaits.binds (ps := ["fed", "read", "many"]) fun _ _ _ _ _ _ us hl => match us, hl with | [_, _, _], _ => rfl
  have bIsRef := FIsRef.binds (ps := ["deed"]) fun _ _ _ _ _ _ us hl => match us, hl with | [_], _ => rfl
  have bRight := FRight.binds (ps := ["draw", "fed", "told", "many"]) fun _ _ _ _ _ _ us hl => match us, hl with | [_, _, _, _], _ => rfl
  have bRefd := FRefd.binds (ps := []) fun _ _ _ _ _ _ us hl => match us, hl with | [], _ => rfl
  have clT : Cls K CT := ⟨pgT, hdT, poT, saT⟩
  have kiT : PySem.W.kitOne K (.ref CT) (.ref CT) = some true := by simp [PySem.W.kitOne]
  have ctT : CTxt K mg CT "Times" := ⟨clT, m_T, ⟨clT, haT, hnO, htO, obT, kiT⟩, kiT⟩
  have clL : Cls K CL := ⟨pgL, hdL, poL, saL⟩
  have kiL : PySem.W.kitOne K (.ref CL) (.ref CL) = some true := by simp [PySem.W.kitOne]
  have ctL : CTxt K mg CL "Lag" := ⟨clL, m_L, ⟨clL, haL, hnO, htO, obL, kiL⟩, kiL⟩
  have clG : Cls K CG := ⟨pgG, hdG, poG, saG⟩
  have kiG : PySem.W.kitOne K (.ref CG) (.ref CG) = some true := by simp [PySem.W.kitOne]
  have ctG : CTxt K mg CG "Growing" := ⟨clG, m_G, ⟨clG, haG, hnO, htO, obG, kiG⟩, kiG⟩
  have clP : Cls K CP := ⟨pgP, hdP, poP, saP⟩
  have kiP : PySem.W.kitOne K (.ref CP) (.ref CP) = some true := by simp [PySem.W.kitOne]
  have ctP : CTxt K mg CP "Keep" := ⟨clP, m_P, ⟨clP, haP, hnO, htO, obP, kiP⟩, kiP⟩
  have clR : Cls K CR := ⟨pgR, hdR, poR, saR⟩
  have kiR : PySem.W.kitOne K (.ref CR) (.ref CR) = some true := by simp [PySem.W.kitOne]
  have ctR : CTxt K mg CR "Rate" := ⟨clR, m_R, ⟨clR, haR, hnO, htO, obR, kiR⟩, kiR⟩
  have MkT : Mk K CT fTI := ⟨mkT, aTI, iTI, kcT⟩
  have MkL : Mk K CL fLagI := ⟨mkL, aLagI, iLagI, kcL⟩
  have MkG : Mk K CG fGroI := ⟨mkG, aGroI, iGroI, kcG⟩
  have MkP : Mk K CP fKeeI := ⟨mkP, aKeeI, iKeeI, kcP⟩
  have MkR : Mk K CR fRatI := ⟨mkR, aRatI, iRatI, kcR⟩
  have ANum : At K mg "is_number" fNum := ⟨m_Num, kNum⟩
  have AAre : At K mg "are_numbers" fAre := ⟨m_Are, kAre⟩
  have AAt : At K mg "number_at" fAt := ⟨m_At, kAt⟩
  have AFront : At K mg "common_front" fFront := ⟨m_Front, kFront⟩
  have APer : At K mg "common_period" fPer := ⟨m_Per, kPer⟩
  have ACheck : At K mg "check_times" fCheck := ⟨m_Check, kCheck⟩
  have AGL : At K mg "greatest_lag" fGL := ⟨m_GL, kGL⟩
  have AGrow : At K mg "growth_of" fGrow := ⟨m_Grow, kGrow⟩
  have ATicks : At K mg "enough_ticks" fTicks := ⟨m_Ticks, kTicks⟩
  have ALags : At K mg "lags" fLags := ⟨m_Lags, kLags⟩
  have AFrom : At K mg "lags_from" fFrom := ⟨m_From, kFrom⟩
  have AAfter : At K mg "lag_after" fAfter := ⟨m_After, kAfter⟩
  have AAhead : At K mg "lag_ahead" fAhead := ⟨m_Ahead, kAhead⟩
  have AKeep : At K mg "least_keeping" fKeep := ⟨m_Keep, kKeep⟩
  have AWait : At K mg "waiting_rows" fWait := ⟨m_Wait, kWait⟩
  have AAsked : At K mg "check_asked" fAsked := ⟨m_Asked, kAsked⟩
  have ASteady : At K mg "steady" fSteady := ⟨m_Steady, kSteady⟩
  have AEnough : At K mg "is_enough" fEnough := ⟨m_Enough, kEnough⟩
  have ARate : At K mg "least_rate" fRate := ⟨m_Rate, kRate⟩
  have ABeyond : At K mg "first_beyond" fBeyond := ⟨m_Beyond, kBeyond⟩
  have ANumber : At K mg "_law_number" fNumber := ⟨m_Number, kNumber⟩
  have ATake : At K mg "_law_take" fTake := ⟨m_Take, kTake⟩
  have ARow : At K mg "_law_row" fRow := ⟨m_Row, kRow⟩
  have ALAt : At K mg "_law_at" fLAt := ⟨m_LAt, kLAt⟩
  have AWaits : At K mg "_law_waits" fWaits := ⟨m_Waits, kWaits⟩
  have AIsRef : At K mg "_law_is_refused" fIsRef := ⟨m_IsRef, kIsRef⟩
  have ARight : At K mg "_law_rate_right" fRight := ⟨m_Right, kRight⟩
  have ARefd : At K mg "_law_refused" fRefd := ⟨m_Refd, kRefd⟩
  have FCRefd : FunC K "_law_refused" "_law_refused" sRefd fRefd _ cc := ⟨_, _, _, _, _, _, _, _, rfl, lRefd, cRefd⟩
  have eB : ExcC K CB := ⟨gaB, ggB, bB, hdB, haB, hnO, htO, obB⟩
  refine ⟨PySem.W.fnOf "law" "law" (defArgs sLaw) (defBody sLaw) (defScope sLaw) .none kVLaw dcLaw pmLaw anLaw cdLaw ctLaw, cc, PP, hTab, nTab, hCode, fun s v => .of_eq rfl, fun base _ _ TB => ?_⟩
  have T : Txt l.prog w K mg base ⟨CT, CL, CG, CP, CR, CB, CX⟩ :=
    { says := fun C b h => by
        rcases h with ⟨rfl, rfl⟩ | ⟨rfl, rfl⟩ | ⟨rfl, rfl⟩
        · exact ⟨fLagB, _, aLagB, iLagB, ok_lagB FLagB, bLagB⟩
        · exact ⟨fGroB, _, aGroB, iGroB, ok_groB FGroB, bGroB⟩
        · exact ⟨fKeeB, _, aKeeB, iKeeB, ok_keeB FKeeB, bKeeB⟩
      bad := ⟨xB, m_B, kcB, bB, tB, eB, PySem.W.exm_ref bB hdB tB sB, kit_sub hdX tX sX (fun _ => rfl), m_X⟩
      no_is := kit_sub hdT ttT noT (fun z => nomatch z), lst_is := kit_sub hdT ttT lsT (fun z => nomatch z)
      type := w_type, int := w_int, bool := w_bool, len := w_len, list := w_list, tuple := w_tuple, isinstance := w_isinstance, all := w_all, any := w_any, max := w_max, min := w_min, sum := w_sum, abs := w_abs, range := w_range, enumerate := w_enumerate, sorted := w_sorted, zip := w_zip, divmod := w_divmod, g_lcm := m_lcm, g_MOST_TICKS := ⟨_, m_MOST_TICKS⟩, g_MOST_ROWS := ⟨_, m_MOST_ROWS⟩, g_MOST_BOUND := ⟨_, m_MOST_BOUND⟩,
      Times := ctT, Lag := ctL, Growing := ctG, Keep := ctP, Rate := ctR, n_front := nTfront, n_period := nTperiod, n_lnumber := nLnumber, n_ltick := nLtick, n_gperiod := nGperiod, n_ggrowth := nGgrowth, n_krows := nProws, n_ktick := nPtick, n_kgroup := nPgroup, n_rnumber := nRnumber, n_rtick := nRtick }
  have GNum := ok_num FNum T
  have GNumV := ok_numV FNum T
  have GAre := ok_are FAre T ANum GNum bNum
  have GAreB := okB_are FAre T ANum GNumV bNum
  have GAt := ok_at FAt T
  have GFront := ok_front FFront T
  have GPer := ok_per FPer T
  have GCheck := ok_check FCheck T
  have GCheckX := okx_check FCheck T
  have GLagI := ok_lagI FLagI T
  have GGroI := ok_groI FGroI T
  have GRatI := ok_ratI FRatI T
  have GKeeI := ok_keeI FKeeI T
  have GTI := ok_tI FTI T AAre GAre bAre
  have GTIx := okx_TI FTI T AAre (FnOk.or GAre GAreB) bAre
  have GGrow := ok_grow FGrow T APer GPer bPer
  have GTicks := ok_ticks FTicks AFront GFront bFront APer GPer bPer
  have GFrom := ok_from FFrom T AAt GAt bAt
  have GLags := ok_lags FLags AFrom GFrom bFrom
  have GGL := ok_gl FGL T ACheck GCheck bCheck AGrow GGrow bGrow APer GPer bPer ALags GLags bLags ATicks GTicks bTicks MkG GGroI bGroI MkL GLagI bLagI
  have GGLx := okx_gl FGL T ACheck GCheckX bCheck AGrow GGrow bGrow APer GPer bPer ALags GLags bLags ATicks GTicks bTicks MkG GGroI bGroI MkL GLagI bLagI
  have GSteady := ok_steady FSteady T MkT GTI bTI
  have GAsked := ok_asked FAsked T ACheck GCheck bCheck ANum GNum bNum
  have GAskedX := okx_asked FAsked T ACheck GCheck bCheck ANum GNumV bNum
  have GEnough := ok_enough FEnough T AGL GGL bGL ASteady GSteady bSteady
  have GBeyond := ok_beyond FBeyond T AAt GAt bAt
  have GRate := ok_rate FRate T AAsked GAsked bAsked AEnough GEnough bEnough ABeyond GBeyond bBeyond MkR GRatI bRatI
  have GRateX := okx_rate FRate T AAsked GAskedX bAsked AEnough GEnough bEnough ABeyond GBeyond bBeyond MkR GRatI bRatI
  have GWait := ok_wait FWait T ALags GLags bLags AAt GAt bAt
  have GKeep := ok_keep FKeep T ACheck GCheck bCheck AGrow GGrow bGrow APer GPer bPer ATicks GTicks bTicks AWait GWait bWait MkG GGroI bGroI MkP GKeeI bKeeI
  have GKeepX := okx_keep FKeep T ACheck GCheckX bCheck AGrow GGrow bGrow APer GPer bPer ATicks GTicks bTicks AWait GWait bWait MkG GGroI bGroI MkP GKeeI bKeeI
  have GAfter := ok_after FAfter AFrom GFrom bFrom
  have GAhead := ok_ahead FAhead T AFront GFront bFront APer GPer bPer AGrow GGrow bGrow AAfter GAfter bAfter
  have GTAt := ok_tat FTAt AAt GAt bAt
  have GUp := ok_up FUp T
  have GShows := ok_shows FShows T AAsked GAsked bAsked AEnough GEnough bEnough AAhead GAhead bAhead ASteady GSteady bSteady
  have GNumber := ok_number FNumber T
  have GTake := ok_take FTake T ANumber GNumber bNumber
  have GRow := ok_row FRow T ATake GTake bTake
  have GLAt := ok_lat FLAt T
  have GWaits := ok_waits FWaits T ALAt GLAt bLAt
  have GRight := ok_right FRight T ATake GTake bTake ARate GRate bRate ⟨aShows, iShows, kShows⟩ GShows bShows MkR GRatI bRatI AWaits GWaits bWaits
  have GRefd := ok_refd FCRefd T TB FIsRef AIsRef bIsRef MkT GTI GTIx bTI ARate GRateX bRate AKeep GKeepX bKeep AGL GGLx bGL
  exact ok_law FLaw T ATake GTake bTake ARow GRow bRow MkT GTI bTI ALAt GLAt bLAt ⟨aTAt, iTAt, kTAt⟩ GTAt bTAt ⟨aUp, iUp, kUp⟩ GUp bUp AWaits GWaits bWaits ALags GLags bLags AGL GGL bGL AKeep GKeep bKeep ARight GRight bRight ARefd GRefd bRefd
end KT
end
open PySem PySem.W PyProof.Rows in
set_option maxRecDepth 100000 in
set_option maxHeartbeats 0 in
theorem PySem.Challenge.cw_allbrokers_k48_whole_lags_holds : PySem.Challenge.rw_allbrokers_k48_whole_lags.Holds := by
  w_on; o_law; k_head; (case hw => w_witness2)
  k_fill
  refine KT.from_law (l := PySem.Challenge.rw_allbrokers_k48_whole_lags) rfl rfl (fun w h Y => PySem.W.km_in_of Y) ?F
  case F =>
    intro w mg fa h Y KX G hmg
    refine' KT.all_mk KX G hmg ?gT ?pgT ?hdT ?poT ?saT ?mkT ?kcT ?haT ?obT ?nTfront ?nTperiod ?gL ?pgL ?hdL ?poL ?saL ?mkL ?kcL ?haL ?obL ?nLnumber ?nLtick ?gG ?pgG ?hdG ?poG ?saG ?mkG ?kcG ?haG ?obG ?nGperiod ?nGgrowth ?gP ?pgP ?hdP ?poP ?saP ?mkP ?kcP ?haP ?obP ?nProws ?nPtick ?nPgroup ?gR ?pgR ?hdR ?poR ?saR ?mkR ?kcR ?haR ?obR ?nRnumber ?nRtick ?hnO ?htO ?ttT ?noT ?lsT ?gB ?gX ?xB ?kcB ?bB ?tB ?gaB ?ggB ?hdB ?haB ?obB ?sB ?hdX ?tX ?sX ?aTI ?iTI ?lTI ?cTI ?kTI ?aTAt ?iTAt ?lTAt ?cTAt ?kTAt ?aUp ?iUp ?lUp ?cUp ?kUp ?aLagI ?iLagI ?lLagI ?cLagI ?kLagI ?aLagB ?iLagB ?lLagB ?cLagB ?kLagB ?aGroI ?iGroI ?lGroI ?cGroI ?kGroI ?aGroB ?iGroB ?lGroB ?cGroB ?kGroB ?aKeeI ?iKeeI ?lKeeI ?cKeeI ?kKeeI ?aKeeB ?iKeeB ?lKeeB ?cKeeB ?kKeeB ?aRatI ?iRatI ?lRatI ?cRatI ?kRatI ?aShows ?iShows ?lShows ?cShows ?kShows ?aNum ?lNum ?cNum ?kNum ?aAre ?lAre ?cAre ?kAre ?aAt ?lAt ?cAt ?kAt ?aFront ?lFront ?cFront ?kFront ?aPer ?lPer ?cPer ?kPer ?aCheck ?lCheck ?cCheck ?kCheck ?aGL ?lGL ?cGL ?kGL ?aGrow ?lGrow ?cGrow ?kGrow ?aTicks ?lTicks ?cTicks ?kTicks ?aLags ?lLags ?cLags ?kLags ?aFrom ?lFrom ?cFrom ?kFrom ?aAfter ?lAfter ?cAfter ?kAfter ?aAhead ?lAhead ?cAhead ?kAhead ?aKeep ?lKeep ?cKeep ?kKeep ?aWait ?lWait ?cWait ?kWait ?aAsked ?lAsked ?cAsked ?kAsked ?aSteady ?lSteady ?cSteady ?kSteady ?aEnough ?lEnough ?cEnough ?kEnough ?aRate ?lRate ?cRate ?kRate ?aBeyond ?lBeyond ?cBeyond ?kBeyond ?aNumber ?lNumber ?cNumber ?kNumber ?aTake ?lTake ?cTake ?kTake ?aRow ?lRow ?cRow ?kRow ?aLAt ?lLAt ?cLAt ?kLAt ?aWaits ?lWaits ?cWaits ?kWaits ?aIsRef ?lIsRef ?cIsRef ?kIsRef ?aRight ?lRight ?cRight ?kRight ?aRefd ?lRefd ?cRefd ?kRefd ?aLaw ?lLaw ?cLaw ?kLaw ?dR ?vR ?hTab ?nTab ?hCode ?z_type ?z_int ?z_bool ?z_len ?z_list ?z_tuple ?z_isinstance ?z_all ?z_any ?z_max ?z_min ?z_sum ?z_abs ?z_range ?z_enumerate ?z_sorted ?z_zip ?z_divmod ?z_lcm ?z_MOST_TICKS ?z_MOST_ROWS ?z_MOST_BOUND
    (case gT => k_is)
    (case pgT => k_is)
    (case hdT => k_is)
    (case poT => k_is)
    (case saT => k_is)
    (case mkT => k_is)
    (case kcT => k_is)
    (case haT => k_is)
    (case obT => k_is)
    (case nTfront => k_is)
    (case nTperiod => k_is)
    (case gL => k_is)
    (case pgL => k_is)
    (case hdL => k_is)
    (case poL => k_is)
    (case saL => k_is)
    (case mkL => k_is)
    (case kcL => k_is)
    (case haL => k_is)
    (case obL => k_is)
    (case nLnumber => k_is)
    (case nLtick => k_is)
    (case gG => k_is)
    (case pgG => k_is)
    (case hdG => k_is)
    (case poG => k_is)
    (case saG => k_is)
    (case mkG => k_is)
    (case kcG => k_is)
    (case haG => k_is)
    (case obG => k_is)
    (case nGperiod => k_is)
    (case nGgrowth => k_is)
    (case gP => k_is)
    (case pgP => k_is)
    (case hdP => k_is)
    (case poP => k_is)
    (case saP => k_is)
    (case mkP => k_is)
    (case kcP => k_is)
    (case haP => k_is)
    (case obP => k_is)
    (case nProws => k_is)
    (case nPtick => k_is)
    (case nPgroup => k_is)
    (case gR => k_is)
    (case pgR => k_is)
    (case hdR => k_is)
    (case poR => k_is)
    (case saR => k_is)
    (case mkR => k_is)
    (case kcR => k_is)
    (case haR => k_is)
    (case obR => k_is)
    (case nRnumber => k_is)
    (case nRtick => k_is)
    (case hnO => k_is)
    (case htO => k_is)
    (case ttT => first | k_is | kernel_rfl | rfl)
    (case noT => first | k_is | kernel_rfl | rfl)
    (case lsT => first | k_is | kernel_rfl | rfl)
    (case gB => k_is)
    (case gX => k_is)
    (case xB => k_exc)
    (case kcB => k_is)
    (case bB => first | k_is | kernel_rfl | rfl)
    (case tB => first | k_is | kernel_rfl | rfl)
    (case gaB => first | k_is | kernel_rfl | rfl)
    (case ggB => first | k_is | kernel_rfl | rfl)
    (case hdB => first | k_is | kernel_rfl | rfl)
    (case haB => first | k_is | kernel_rfl | rfl)
    (case obB => first | k_is | kernel_rfl | rfl)
    (case sB => first | k_is | kernel_rfl | rfl)
    (case hdX => first | k_is | kernel_rfl | rfl)
    (case tX => first | k_is | kernel_rfl | rfl)
    (case sX => first | k_is | kernel_rfl | rfl)
    (case aTI => k_is)
    (case iTI => k_is)
    (case lTI => k_is)
    (case cTI => k_is)
    (case kTI => k_is)
    (case aTAt => k_is)
    (case iTAt => k_is)
    (case lTAt => k_is)
    (case cTAt => k_is)
    (case kTAt => k_is)
    (case aUp => k_is)
    (case iUp => k_is)
    (case lUp => k_is)
    (case cUp => k_is)
    (case kUp => k_is)
    (case aLagI => k_is)
    (case iLagI => k_is)
    (case lLagI => k_is)
    (case cLagI => k_is)
    (case kLagI => k_is)
    (case aLagB => k_is)
    (case iLagB => k_is)
    (case lLagB => k_is)
    (case cLagB => k_is)
    (case kLagB => k_is)
    (case aGroI => k_is)
    (case iGroI => k_is)
    (case lGroI => k_is)
    (case cGroI => k_is)
    (case kGroI => k_is)
    (case aGroB => k_is)
    (case iGroB => k_is)
    (case lGroB => k_is)
    (case cGroB => k_is)
    (case kGroB => k_is)
    (case aKeeI => k_is)
    (case iKeeI => k_is)
    (case lKeeI => k_is)
    (case cKeeI => k_is)
    (case kKeeI => k_is)
    (case aKeeB => k_is)
    (case iKeeB => k_is)
    (case lKeeB => k_is)
    (case cKeeB => k_is)
    (case kKeeB => k_is)
    (case aRatI => k_is)
    (case iRatI => k_is)
    (case lRatI => k_is)
    (case cRatI => k_is)
    (case kRatI => k_is)
    (case aShows => k_is)
    (case iShows => k_is)
    (case lShows => k_is)
    (case cShows => k_is)
    (case kShows => k_is)
    (case aNum => k_is)
    (case lNum => k_is)
    (case cNum => k_is)
    (case kNum => k_is)
    (case aAre => k_is)
    (case lAre => k_is)
    (case cAre => k_is)
    (case kAre => k_is)
    (case aAt => k_is)
    (case lAt => k_is)
    (case cAt => k_is)
    (case kAt => k_is)
    (case aFront => k_is)
    (case lFront => k_is)
    (case cFront => k_is)
    (case kFront => k_is)
    (case aPer => k_is)
    (case lPer => k_is)
    (case cPer => k_is)
    (case kPer => k_is)
    (case aCheck => k_is)
    (case lCheck => k_is)
    (case cCheck => k_is)
    (case kCheck => k_is)
    (case aGL => k_is)
    (case lGL => k_is)
    (case cGL => k_is)
    (case kGL => k_is)
    (case aGrow => k_is)
    (case lGrow => k_is)
    (case cGrow => k_is)
    (case kGrow => k_is)
    (case aTicks => k_is)
    (case lTicks => k_is)
    (case cTicks => k_is)
    (case kTicks => k_is)
    (case aLags => k_is)
    (case lLags => k_is)
    (case cLags => k_is)
    (case kLags => k_is)
    (case aFrom => k_is)
    (case lFrom => k_is)
    (case cFrom => k_is)
    (case kFrom => k_is)
    (case aAfter => k_is)
    (case lAfter => k_is)
    (case cAfter => k_is)
    (case kAfter => k_is)
    (case aAhead => k_is)
    (case lAhead => k_is)
    (case cAhead => k_is)
    (case kAhead => k_is)
    (case aKeep => k_is)
    (case lKeep => k_is)
    (case cKeep => k_is)
    (case kKeep => k_is)
    (case aWait => k_is)
    (case lWait => k_is)
    (case cWait => k_is)
    (case kWait => k_is)
    (case aAsked => k_is)
    (case lAsked => k_is)
    (case cAsked => k_is)
    (case kAsked => k_is)
    (case aSteady => k_is)
    (case lSteady => k_is)
    (case cSteady => k_is)
    (case kSteady => k_is)
    (case aEnough => k_is)
    (case lEnough => k_is)
    (case cEnough => k_is)
    (case kEnough => k_is)
    (case aRate => k_is)
    (case lRate => k_is)
    (case cRate => k_is)
    (case kRate => k_is)
    (case aBeyond => k_is)
    (case lBeyond => k_is)
    (case cBeyond => k_is)
    (case kBeyond => k_is)
    (case aNumber => k_is)
    (case lNumber => k_is)
    (case cNumber => k_is)
    (case kNumber => k_is)
    (case aTake => k_is)
    (case lTake => k_is)
    (case cTake => k_is)
    (case kTake => k_is)
    (case aRow => k_is)
    (case lRow => k_is)
    (case cRow => k_is)
    (case kRow => k_is)
    (case aLAt => k_is)
    (case lLAt => k_is)
    (case cLAt => k_is)
    (case kLAt => k_is)
    (case aWaits => k_is)
    (case lWaits => k_is)
    (case cWaits => k_is)
    (case kWaits => k_is)
    (case aIsRef => k_is)
    (case lIsRef => k_is)
    (case cIsRef => k_is)
    (case kIsRef => k_is)
    (case aRight => k_is)
    (case lRight => k_is)
    (case cRight => k_is)
    (case kRight => k_is)
    (case aRefd => k_is)
    (case lRefd => k_is)
    (case cRefd => k_is)
    (case kRefd => k_is)
    (case aLaw => k_is)
    (case lLaw => k_is)
    (case cLaw => k_is)
    (case kLaw => k_is)
    (case dR => k_is)
    (case vR => rfl)
    (case hTab => exact PySem.W.km_tabs_of Y _ (by first | k_mem | exact List.mem_singleton.mpr rfl | simp))
    (case nTab => first | k_is | kernel_rfl | rfl)
    (case hCode => exact PySem.W.codeHd_of_K KX (by kernel_rfl))
    (case z_type => k_is)
    (case z_int => k_is)
    (case z_bool => k_is)
    (case z_len => k_is)
    (case z_list => k_is)
    (case z_tuple => k_is)
    (case z_isinstance => k_is)
    (case z_all => k_is)
    (case z_any => k_is)
    (case z_max => k_is)
    (case z_min => k_is)
    (case z_sum => k_is)
    (case z_abs => k_is)
    (case z_range => k_is)
    (case z_enumerate => k_is)
    (case z_sorted => k_is)
    (case z_zip => k_is)
    (case z_divmod => k_is)
    (case z_lcm => k_is)
    (case z_MOST_TICKS => k_is)
    (case z_MOST_ROWS => k_is)
    (case z_MOST_BOUND => k_is)
