import PyProof.Rows.All
import Wide.All
import OpenK.AllK
import Wide.FinOn
import HandS.TupSets
import HandS.SetFor
import KE.SortData
import HandS.SetKeys
import HandS.SetBool
import HandS.DictComp
import HandS.Iter
import KE.GoesMore
import HandS.Words
import HandS.ExcOwn
import HandS.OwnEq
import KE.KExcSuper
import HandS.ForMost
import HandS.ForExc
import HandS.FStr
import HandS.ExcInit
import HandS.ExcField
import HandS.Steps
import HandS.Gcd
import HandS.Style
import HandS.Flow
import HandS.IsInst
import HandS.Codes
import HandS.Wide
import PyProof.DictUpdate
import HandS.Dict
import KE.KDictList
import HandS.Call
import HandS.List
import HandS.Walk
import HandS.StrMore
import HandS.ExcIs
import HandS.WordsExc
import HandS.TryOnly
import HandS.Text
import HandS.NamedTupSort
import HandS.Zip
import KE.GoesZip
import HandS.TryMany
import HandS.Lambda
import PyProof.StrOps2
import HandS.EndTab
import HandS.Ends
import KE.KStateDown
import KE.KNestM
import PySem.Challenge.RW_allbrokers_k50_whole_moves
set_option Elab.async false
set_option linter.all false
set_option maxRecDepth 100000
section
/-! Tables of sets, whatever stands in them: one more member, and laying anew. -/
namespace MX
open PySem PySem.Spec PyProof.Rows L2

/-- the hashes of a set's rows -/
abbrev hashes (es : Array (Int × Value)) : List Int := es.toList.map (·.1)

theorem len_hashes (es : Array (Int × Value)) : (hashes es).length = es.size := by simp [hashes]

theorem fits_ok {t : SetTable} {es : Array (Int × Value)} (T : TabOk t (hashes es)) (sp : es.size * 5 < t.mask * 3) : t.fits es.size = true := by
  have e := T.sz
  rw [len_hashes] at e
  simp only [SetTable.fits, SetTable.fill, T.dm, e, Bool.and_eq_true, beq_self_eq_true, decide_eq_true_eq, true_and]
  simp
  omega

/-- a row more -/
theorem tab_in {t : SetTable} {es : Array (Int × Value)} (T : TabOk t (hashes es)) (h : Int) (x : Value) {K : Nat} (free : way t.mask h K ∉ t.place.toList) (full : ∀ k, k < K → way t.mask h k ∈ t.place.toList) :
    ∃ p t', t.put (way t.mask h K) = (t', p) ∧ TabOk t' (hashes (SetTable.insertAt es p (h, x))) ∧ t'.mask = t.mask ∧ t'.led = t.led ∧
      (SetTable.insertAt es p (h, x)).size = es.size + 1 ∧ (SetTable.insertAt es p (h, x)).toList.Perm ((h, x) :: es.toList) ∧ t'.fill = es.size + 1 := by
  obtain ⟨e1, e2, T', e3, e4, _, _, _, e5⟩ := T.put free full
  refine ⟨(t.put (way t.mask h K)).2, (t.put (way t.mask h K)).1, rfl, ?_, e3, e4, ?_, ?_, ?_⟩
  · rw [e1]
    unfold hashes
    rw [SetTable.toList_insertAt, List.map_append, List.map_take, List.map_cons, List.map_drop]
    exact T'
  · have q := (SetTable.insertAt_perm es (t.put (way t.mask h K)).2 (h, x)).length_eq
    simpa using q
  · refine (SetTable.insertAt_perm es _ (h, x)).trans ?_
    rw [Array.toList_push]
    exact List.perm_append_singleton _ _
  · rw [e5, len_hashes]

/-- the masks that a set of fewer than 64 members can have when it is laid anew -/
theorem next_mask {m n : Nat} (hm : MaskOk m) (few : n < 64) (before : (n - 1) * 5 < m * 3) (full : n * 5 ≥ m * 3) : ∃ M, SetTable.sizeAbove (SetTable.grown n) - 1 = M ∧ MaskOk M ∧ n ≤ M ∧ n * 5 < M * 3 ∧ SetTable.sizeAbove (SetTable.grown n) ≤ 128 := by
  rcases hm with e | e | e
  · have : n = 5 := by omega
    subst this
    rw [size_20]
    exact ⟨31, rfl, .inr (.inl rfl), by decide, by decide, by decide⟩
  · have : n = 19 := by omega
    subst this
    rw [size_76]
    exact ⟨127, rfl, .inr (.inr rfl), by decide, by decide, by decide⟩
  · omega

theorem pick_map (es : Array (Int × Value)) : ∀ l : List Nat, (∀ i ∈ l, i < es.size) → ∃ rows, l.filterMap (es[·]?) = rows ∧ rows.length = l.length ∧ rows.map (·.1) = l.map fun i => (es.map (·.1)).getD i 0
  | [], _ => ⟨[], rfl, rfl, rfl⟩
  | i :: l, h => by
    obtain ⟨rows, e1, e2, e3⟩ := pick_map es l fun j hj => h j (List.mem_cons_of_mem _ hj)
    have hi : i < es.size := h i List.mem_cons_self
    have e0 : es[i]? = some es[i] := Array.getElem?_eq_getElem hi
    refine ⟨es[i] :: rows, by rw [List.filterMap_cons_some e0, e1], by simp [e2], ?_⟩
    rw [List.map_cons, List.map_cons, e3]
    congr 1
    rw [Array.getD_eq_getD_getElem?, Array.getElem?_map, e0] <;> rfl

/-- all laid anew, when the table is too full -/
theorem tab_anew {t : SetTable} {es : Array (Int × Value)} (T : TabOk t (hashes es)) (few : es.size < 64) (before : (es.size - 1) * 5 < t.mask * 3) (full : t.tooFull = true) :
    ∃ t' order es', t.relaid (es.map (·.1)) (SetTable.grown es.size) = some (t', order) ∧ order.filterMap (es[·]?) = es' ∧ es'.toList.Perm es.toList ∧ es'.size = es.size ∧
      coversAll order es.size = true ∧ TabOk t' (hashes es') ∧ t'.led = t.led ∧ es'.size * 5 < t'.mask * 3 ∧ SetTable.sizeAbove (SetTable.grown es.size) ≤ 128 := by
  have hfull : es.size * 5 ≥ t.mask * 3 := by
    have e := T.sz
    rw [len_hashes] at e
    simpa [SetTable.tooFull, SetTable.fill, T.dm, e] using full
  obtain ⟨M, hM, ok, hn, sp, small⟩ := next_mask T.mok few before hfull
  obtain ⟨t', order, e, pm, T', em, el, _, _⟩ := relaid_ok t (hs := es.map (·.1)) hM ok (by rw [Array.size_map]; exact hn)
  rw [Array.size_map] at pm
  have inside : ∀ i ∈ order.toList, i < es.size := fun i hi => List.mem_range.mp (pm.mem_iff.mp hi)
  obtain ⟨rows, r1, r2, r3⟩ := pick_map es order.toList inside
  have et : (order.filterMap (es[·]?)).toList = rows := by rw [Array.toList_filterMap, r1]
  have pe : (order.filterMap (es[·]?)).toList.Perm es.toList := by
    rw [Array.toList_filterMap]
    exact (pm.filterMap _).trans (by rw [filterMap_getElem?_range])
  have sz : (order.filterMap (es[·]?)).size = es.size := by
    rw [← Array.length_toList, pe.length_eq, Array.length_toList]
  refine ⟨t', order, _, e, rfl, pe, sz, ?_, ?_, el, ?_, small⟩
  · unfold coversAll
    exact List.isPerm_iff.mpr pm
  · unfold hashes
    rw [et, r3]
    exact T'
  · rw [sz, em]
    exact sp

/-- an empty slot is what a search meets that finds no such hash -/
theorem free_slot_ok {t : SetTable} {es : Array (Int × Value)} (T : TabOk t (hashes es)) (sp : es.size * 5 < t.mask * 3) (h : Int) :
    ∃ K, t.freeSlot h = some (way t.mask h K, false) ∧ way t.mask h K ∉ t.place.toList ∧ ∀ k, k < K → way t.mask h k ∈ t.place.toList := by
  obtain ⟨K, few, out, ins⟩ := T.first (by rw [len_hashes]; omega) h
  refine ⟨K, ?_, out, ins⟩
  have z := go_spec t T.ris T.dm (fun _ => h + 1) h (10 * SetTable.turns t.mask) K (runAt t.mask (SetTable.bits h % (t.mask + 1)) (SetTable.bits h)) rfl few ins out
  have e : t.probe (fun _ => h + 1) h (t.probeStart h) = some (.empty (way t.mask h K) none) := by
    rcases z with ⟨_, _, _, _, bad, _⟩ | ⟨_, e⟩
    · exact absurd (show h + 1 = h from bad) (by omega)
    · exact e
  unfold SetTable.freeSlot
  rw [e] <;> rfl

/-- what a scan lays -/
theorem lay_in {t : SetTable} {es : Array (Int × Value)} (T : TabOk t (hashes es)) (sp : es.size * 5 < t.mask * 3) (few : es.size + 1 < 64) (h : Int) (x : Value) :
    ∃ es' t', layNew t es h x = (es', t', false, false) ∧ TabOk t' (hashes es') ∧ t'.mask = t.mask ∧ t'.led = t.led ∧ es'.size = es.size + 1 ∧ es'.toList.Perm ((h, x) :: es.toList) := by
  obtain ⟨K, e, out, ins⟩ := free_slot_ok T sp h
  obtain ⟨p, t', e1, T', em, el, sz, pm, ef⟩ := tab_in T h x out ins
  have hfit : t'.fits (SetTable.insertAt es p (h, x)).size = true := by
    have q := T'.sz
    rw [len_hashes] at q
    have big : 7 ≤ t'.mask := by rcases T'.mok with z | z | z <;> omega
    simp only [SetTable.fits, ef, q, beq_self_eq_true, Bool.true_and, decide_eq_true_eq]
    omega
  refine ⟨_, t', ?_, T', em, el, sz, pm⟩
  unfold layNew
  rw [e]
  simp only [e1]
  rw [show t'.orStandIn (SetTable.insertAt es p (h, x)).size = t' from by unfold SetTable.orStandIn; rw [if_pos hfit], hfit] <;> rfl
end MX
end
section
/-! A set with fewer than 64 members: its table is sound; adding to it. -/
namespace MX
open PySem PySem.Spec PyProof.Rows L2

/-- at a stands a set of these rows -/
structure Held (w : World) (h : Heap) (a : Addr) (es : Array (Int × Value)) (ep : Nat) (t : SetTable) : Prop where
  obj : ∃ o, h.get? a = some o ∧ o.ExactSet ∧ o.data = .set es ep t
  tab : TabOk t (hashes es)
  order : w.params.followText "set-order" = true ∨ t.led = true
  space : es.size * 5 < t.mask * 3
  few : es.size < 64

theorem Held.fits {w : World} {h : Heap} {a : Addr} {es : Array (Int × Value)} {ep : Nat} {t : SetTable} (R : Held w h a es ep t) : t.fits es.size = true := fits_ok R.tab R.space
theorem Held.stays {w : World} {h h' : Heap} {a : Addr} {es : Array (Int × Value)} {ep : Nat} {t : SetTable} (R : Held w h a es ep t) (k : ∀ o, h.get? a = some o → h'.get? a = some o) : Held w h' a es ep t := by
  obtain ⟨o, ho, more⟩ := R.obj
  exact { R with obj := ⟨o, k o ho, more⟩ }
/-- plain or not says nothing of the slots -/
theorem dull {t : SetTable} {hs : List Int} (T : TabOk t hs) : TabOk { t with plain := false } hs := by
  cases t
  exact ⟨T.ris, T.dm, T.sz, T.mok, T.bd, T.reach⟩

section
variable {P : Program} {w : World} {A : Around} {E : Value → Shared → Prop} {s : Shared} {a : Addr} {es : Array (Int × Value)} {ep : Nat} {t : SetTable}

/-- other rows are stored -/
theorem put_rows {o : Obj} {es' : Array (Int × Value)} {t' : SetTable} {h : Heap} (ho : h.get? a = some o) (hx : o.ExactSet) (hd : o.data = .set es ep t) (T : TabOk t' (hashes es')) (ord : w.params.followText "set-order" = true ∨ t'.led = true)
    (sp : es'.size * 5 < t'.mask * 3) (few : es'.size < 64) : Held w (h.update a (Obj.putSet es' t')) a es' (ep + 1) t' := by
  refine ⟨⟨{ o with data := .set es' (ep + 1) t' }, ?_, hx, rfl⟩, T, ord, sp, few⟩
  have e := Heap.get?_update_self (Obj.putSet es' t') ho (by rw [putSet_of es' t' hd] <;> rfl)
  rw [putSet_of es' t' hd] at e
  exact e

theorem sizes {n : Nat} (few : n < 64) : n ≤ sizeLine := by rw [sizeLine_eq]; omega

/-- behind a store: laid anew by a scan's way, if the table is too full -/
theorem scan_end {Q : Option Bool → Shared → Prop} {o : Obj} {es1 : Array (Int × Value)} {t1 : SetTable} {n : Nat} (ho : s.heap.get? a = some o) (hx : o.ExactSet) (hd : o.data = .set es ep t)
    (T : TabOk t1 (hashes es1)) (ord : w.params.followText "set-order" = true ∨ t1.led = true) (sp : n * 5 < t1.mask * 3) (hn : es1.size = n + 1) (few : es1.size < 64) {g : Bool → Sem Unit} (hg : g false = pure ())
    (q : ∀ h' es2 ep2 t2, Heap.SameBut a s.heap h' → Held w h' a es2 ep2 t2 → es2.toList.Perm es1.toList → Q (some true) { s with heap := h' }) :
    wpAny (model P w) A (do
      storeSet a es1 t1
      if (!false && t1.tooFull) = true then do
        g (relayAll t1 es1 (SetTable.grown es1.size)).2.2
        storeSet a (relayAll t1 es1 (SetTable.grown es1.size)).1 (relayAll t1 es1 (SetTable.grown es1.size)).2.1
        pure (some true)
      else pure (some true)) Q E s := by
  refine wpAny_bind (wpAny_storeSet_of ho hd ?_ (sizes few))
  have same1 := Heap.SameBut.update s.heap a (Obj.putSet es1 t1)
  have o1 := Heap.get?_update_self (Obj.putSet es1 t1) ho (by rw [putSet_of es1 t1 hd] <;> rfl)
  rw [putSet_of es1 t1 hd] at o1
  rcases Bool.eq_false_or_eq_true t1.tooFull with full | notFull
  · obtain ⟨t2, order, es2, e1, e2, pm, sz, cov, T2, el, sp2, _⟩ := tab_anew T few (by rw [hn]; exact sp) full
    have fit2 : t2.fits es2.size = true := fits_ok T2 sp2
    have er : relayAll t1 es1 (SetTable.grown es1.size) = (es2, t2, false) := by
      unfold relayAll
      rw [e1]
      simp only [e2, cov, fit2, Bool.and_self, if_true]
    rw [full, er]
    refine wp_if_pos rfl ?_
    dsimp only
    rw [hg]
    refine wpAny_bind (wpAny_pure ?_)
    refine wpAny_bind (wpAny_storeSet_of o1 rfl ?_ (sizes (by rw [sz]; exact few)))
    refine wpAny_pure (q _ es2 _ t2 (same1.trans (Heap.SameBut.update _ a _)) (put_rows o1 hx rfl T2 (ord.imp id fun z => el.trans z) sp2 (by rw [sz]; exact few)) pm)
  · rw [notFull]
    refine wp_if_neg (by decide) (wpAny_pure (q _ es1 _ t1 same1 (put_rows ho hx hd T ord ?_ few) (List.Perm.refl _)))
    have e := T.sz
    rw [len_hashes] at e
    have big := notFull
    simp only [SetTable.tooFull, SetTable.fill, T.dm, e, decide_eq_false_iff_not] at big
    simp at big
    omega

/-- the same by the other way of laying anew -/
theorem relay_end {Q : Unit → Shared → Prop} {o : Obj} (ho : s.heap.get? a = some o) (hx : o.ExactSet) (hd : o.data = .set es ep t) (T : TabOk t (hashes es)) (ord : w.params.followText "set-order" = true ∨ t.led = true)
    {n : Nat} (sp : n * 5 < t.mask * 3) (hn : es.size = n + 1) (few : es.size < 64) (full : t.tooFull = true)
    (q : ∀ h' es2 ep2 t2, Heap.SameBut a s.heap h' → Held w h' a es2 ep2 t2 → es2.toList.Perm es.toList → Q () { s with heap := h' }) : wpAny (model P w) A (setRelay a (SetTable.grown es.size)) Q E s := by
  obtain ⟨t2, order, es2, e1, e2, pm, sz, _, T2, el, sp2, low⟩ := tab_anew T few (by rw [hn]; exact sp) full
  have fit : t.fits es.size = true := by
    have e := T.sz
    rw [len_hashes] at e
    have big : 7 ≤ t.mask := by rcases T.mok with z | z | z <;> omega
    simp only [SetTable.fits, SetTable.fill, T.dm, e, beq_self_eq_true, Bool.true_and, decide_eq_true_eq]
    simp
    omega
  rw [setRelay_eq]
  refine wpAny_bind (wpAny_setState_of ho hd fit ?_)
  dsimp only
  refine wp_if_neg (by rw [sizeLine_eq]; omega) ?_
  try refine wpAny_bind (wpAny_pure ?_)
  rw [e1]
  dsimp only
  rw [e2]
  have eq0 : ¬ (es2.size != es.size) = true := by rw [sz]; simp
  refine wpAny_bind (wp_if_neg eq0 ?_)
  try refine wpAny_bind (wpAny_pure ?_)
  refine wpAny_pure ?_
  refine wpAny_storeSet_of ho hd ?_ (sizes (by rw [sz]; exact few))
  exact q _ es2 _ t2 (Heap.SameBut.update _ a _) (put_rows ho hx hd T2 (ord.imp id fun z => el.trans z) sp2 (by rw [sz]; exact few)) pm
end
end MX
end
section
/-! Adding: by a scan (numbers, words), and by the table (tuples). -/
namespace MX
open PySem PySem.Spec PyProof.Rows L2

section
variable {P : Program} {w : World} {A : Around} {E : Value → Shared → Prop} {s : Shared} {a : Addr} {es : Array (Int × Value)} {ep : Nat} {t : SetTable}

/-- a number or a word is added -/
theorem add_leaf {K : Type} [DecidableEq K] {knd : KeyKind P w K} {k : K} {x : Value} {Q : Bool → Shared → Prop} (R : Held w s.heap a es ep t) (el : ElemsOf knd es.toList) (hk : knd.is k x = true) (hx : x.scannable = true) (room : es.size + 1 < 64)
    (old : ∀ e ∈ es.toList, knd.is k e.2 = true → Q false s)
    (new : (∀ e ∈ es.toList, knd.is k e.2 = false) → ∀ h' es' ep' t', Heap.SameBut a s.heap h' → Held w h' a es' ep' t' → es'.toList.Perm ((knd.hash k, x) :: es.toList) → Q true { s with heap := h' }) :
    wpAny (model P w) A (setAddHashed a x (knd.hash k)) Q E s := by
  obtain ⟨o, ho, ex, hd⟩ := R.obj
  have scan : byScan x es = true := byScan_of hx (Nat.lt_trans R.few (by decide)) el
  unfold setAddHashed
  refine wpAny_holding ?_
  rw [show (100000 : Nat) = 99999 + 1 from rfl, setAddHashedIn_succ]
  refine wpAny_bind (wpAny_setState_of ho hd R.fits ?_)
  dsimp only
  refine wp_if_pos scan ?_
  unfold setAddByScan
  refine wpAny_bind (wpAny_bind (wpAny_rule (wpAny_bind (wpAny_setScan_of hk ho hd R.fits el ?_))))
  cases hf : List.findIdx? (fun e => knd.is k e.2) es.toList with
  | some j =>
    obtain ⟨hj, yes, _⟩ := List.findIdx?_eq_some_iff_getElem.mp hf
    exact wpAny_pure (wpAny_pure (old _ (List.getElem_mem hj) yes))
  | none =>
    have absent : ∀ e ∈ es.toList, knd.is k e.2 = false := fun e he => by
      have z := List.findIdx?_eq_none_iff.mp hf e he
      simpa using z
    obtain ⟨es1, t1, e1, T1, em, eled, sz, pm⟩ := lay_in R.tab R.space room (knd.hash k) x
    dsimp only
    rw [e1]
    dsimp only
    refine wpAny_bind (wpAny_pure ?_)
    have ord1 : w.params.followText "set-order" = true ∨ t1.led = true := R.order.imp id fun z => eled.trans z
    have sp1 : es.size * 5 < t1.mask * 3 := by rw [em]; exact R.space
    have last : ∀ h' es2 ep2 t2, Heap.SameBut a s.heap h' → Held w h' a es2 ep2 t2 → es2.toList.Perm es1.toList → Q true { s with heap := h' } := fun h' es2 ep2 t2 sb H2 p2 => new absent h' es2 ep2 t2 sb H2 (p2.trans pm)
    by_cases pl : t1.plain = true
    · refine wp_if_pos pl ?_
      rw [hashByValue_scannable 8 hx]
      refine wpAny_bind (wpAny_pure ?_)
      refine scan_end ho ex hd (t1 := if plainKind x = true then t1 else { t1 with plain := false }) (n := es.size) ?_ ?_ ?_ sz (by rw [sz]; exact room) rfl fun h' es2 ep2 t2 sb H2 p2 => ?_
      · split
        · exact T1
        · exact dull T1
      · split
        · exact ord1
        · exact ord1
      · split
        · exact sp1
        · exact sp1
      · exact wpAny_pure (last h' es2 ep2 t2 sb H2 p2)
    · refine wp_if_neg pl ?_
      refine wpAny_bind (wpAny_pure ?_)
      refine scan_end ho ex hd (t1 := t1) (n := es.size) T1 ord1 sp1 sz (by rw [sz]; exact room) rfl fun h' es2 ep2 t2 sb H2 p2 => ?_
      exact wpAny_pure (last h' es2 ep2 t2 sb H2 p2)

/-- a place on the way of a hash -/
abbrev spot (m : Nat) (h : Int) (c : Nat) : SetTable.Probe := nth m (runAt m (SetTable.bits h % (m + 1)) (SetTable.bits h)) c
theorem spot_plain (m : Nat) (h : Int) : ∀ c, (spot m h c).dummy = none := by
  have step : ∀ p : SetTable.Probe, (adv m p).dummy = p.dummy := fun p => by unfold adv; split <;> rfl
  intro c
  induction c with
  | zero => rfl
  | succ c ih => show (nth m _ (c + 1)).dummy = none; rw [nth_succ, step]; exact ih

/-- the search of an adding: what is the same is found, or the first empty slot -/
theorem seek {h : Int} {x : Value} {same : Value → Bool} {Q : SetFound → Shared → Prop} (R : Held w s.heap a es ep t)
    (eqs : ∀ e ∈ es.toList, e.1 = h → ∀ (Q' : Bool → Shared → Prop), Q' (same e.2) s → wpAny (model P w) A (eqBool e.2 x) Q' E s)
    (refs : ∀ e ∈ es.toList, ∃ b, e.2 = Value.ref b)
    (seen : ∀ (ys : List Value) (Q' : Bool → Shared → Prop), (∀ y ∈ ys, ∃ e ∈ es.toList, e.2 = y) → Q' false s → wpAny (model P w) A (searchCouldBeSeen x ys) Q' E s)
    {K : Nat} (low : K < 10 * SetTable.turns t.mask) (out : way t.mask h K ∉ t.place.toList) (ins : ∀ k, k < K → way t.mask h k ∈ t.place.toList)
    (old : ∀ e ∈ es.toList, e.1 = h → same e.2 = true → Q (.there none) s) (new : (∀ e ∈ es.toList, e.1 = h → same e.2 = false) → Q (.free (way t.mask h K) false) s) :
    ∀ (f c : Nat) (stand : Option SetTable.Probe), stand.getD (t.probeStart h) = spot t.mask h c → c ≤ K → K - c < f →
      (∀ k, k < c → ∀ (i : Nat) e, t.place.toList[i]? = some (way t.mask h k) → es[i]? = some e → e.1 = h → same e.2 = false) →
      wpAny (model P w) A (setSearchFrom a x h true f stand) Q E s := by
  obtain ⟨o, ho, ex, hd⟩ := R.obj
  have odd : ¬ t.gaveWay = true := by
    unfold SetTable.gaveWay
    rw [mask_odd R.tab.mok]
    decide
  have rowAt : ∀ {i : Nat} {j : Nat}, t.place.toList[i]? = some j → ∃ e, es[i]? = some e ∧ e ∈ es.toList := fun {i j} hi => by
    have h1 : i < t.place.toList.length := (List.getElem?_eq_some_iff.mp hi).1
    have h2 := R.tab.sz
    rw [len_hashes] at h2
    have h3 : i < es.size := by rw [Array.length_toList, h2] at h1; exact h1
    exact ⟨es[i], Array.getElem?_eq_getElem h3, by simp⟩
  intro f
  induction f with
  | zero => intro c _ _ _ hf; exact absurd hf (Nat.not_lt_zero _)
  | succ f again =>
    intro c stand hst hc hf past
    have move : ∀ q, nth t.mask (spot t.mask h c) q = spot t.mask h (c + q) := fun q => (nth_add t.mask c _ q).symm
    have far : c + (K - c) = K := by omega
    rw [setSearchFrom_succ]
    refine wpAny_bind (wpAny_setState_of ho hd R.fits ?_)
    dsimp only
    refine wp_if_neg odd ?_
    try refine wpAny_bind (wpAny_pure ?_)
    have met := go_spec t R.tab.ris R.tab.dm (fun i => (es[i]?.map (·.1)).getD 0) h (10 * SetTable.turns t.mask) (K - c) (spot t.mask h c) (spot_plain _ _ c) (by omega)
      (fun q hq => by rw [move]; exact ins (c + q) (by omega)) (by rw [move, far]; exact out)
    rw [hst]
    have passed : ∀ q, q ≤ K - c → (∀ (k' i' : Nat), k' < q → t.place.toList[i']? = some (nth t.mask (spot t.mask h c) k').j → (es[i']?.map (·.1)).getD 0 ≠ h) →
        ∀ k, k < c + q → ∀ (i : Nat) e, t.place.toList[i]? = some (way t.mask h k) → es[i]? = some e → e.1 = h → same e.2 = false := fun q hq no k hk i e hi he eh => by
      rcases Nat.lt_or_ge k c with z | z
      · exact past k z i e hi he eh
      · refine absurd ?_ (no (k - c) i (by omega) (by rw [move, show c + (k - c) = k by omega]; exact hi))
        rw [he]
        exact eh
    rcases met with ⟨q, i, hq, hi, hh, no, e⟩ | ⟨no, e⟩
    · have e' : t.probe (fun i => (es[i]?.map (·.1)).getD 0) h (spot t.mask h c) = _ := e
      rw [e']
      dsimp only
      rw [move] at hi
      obtain ⟨r, hr, mem⟩ := rowAt hi
      have hrh : r.1 = h := by
        rw [hr] at hh
        exact hh
      obtain ⟨b, hb⟩ := refs r mem
      have go_on : wpAny (model P w) A (searchRest a x h true f es t (nth t.mask (spot t.mask h c) q).j i (nth t.mask (spot t.mask h c) (q + 1))) Q E s := by
        unfold searchRest
        rw [hr]
        dsimp only
        refine wpAny_bind (wpAny_holding (eqs r mem hrh _ ?_))
        refine wpAny_bind (wpAny_setState_of ho hd R.fits ?_)
        dsimp only
        cases hs : same r.2 with
        | true => exact wp_if_pos rfl (wpAny_pure (old r mem hrh hs))
        | false =>
          refine wp_if_neg (by decide) ?_
          try refine wpAny_bind (wpAny_pure ?_)
          rw [sameMem]
          dsimp only
          have live : t.slot (nth t.mask (spot t.mask h c) q).j = .live i := by rw [move]; exact slot_live R.tab.ris hi
          simp only [if_true, live, hr]
          rw [hb]
          refine wpAny_bind (wpAny_isSame_ref_self (wpAny_bind (wpAny_pure ?_)))
          simp only [if_true]
          refine wp_if_neg (by decide) ?_
          refine again (c + (q + 1)) _ (by rw [← move]; rfl) (by omega) (by omega) fun k hk i' e2 hi' he2 eh => ?_
          rcases Nat.lt_or_ge k (c + q) with z | z
          · exact passed q (by omega) no k z i' e2 hi' he2 eh
          · have ek : k = c + q := by omega
            rw [ek] at hi'
            have l2 := slot_live R.tab.ris hi'
            have l1 := slot_live R.tab.ris hi
            rw [l1] at l2
            injection l2 with l2
            rw [← l2, hr] at he2
            rw [← Option.some.inj he2]
            exact hs
      by_cases led : t.led = true
      · refine wp_if_neg (by simp [led]) ?_
        try refine wpAny_bind (wpAny_pure ?_)
        exact go_on
      · refine wp_if_pos (by simp [led]) ?_
        refine wpAny_bind (seen _ _ (fun y hy => ?_) ?_)
        · obtain ⟨e2, m2, rfl⟩ := List.mem_map.mp hy
          have m3 : e2 ∈ es ∧ e2.1 = h := by simpa using m2
          exact ⟨e2, by simpa using m3.1, rfl⟩
        · refine wp_if_neg (by decide) ?_
          try refine wpAny_bind (wpAny_pure ?_)
          exact go_on
    · have e' : t.probe (fun i => (es[i]?.map (·.1)).getD 0) h (spot t.mask h c) = _ := e
      rw [e']
      dsimp only
      refine wpAny_pure ?_
      rw [move, far]
      refine new fun r mem eh => ?_
      obtain ⟨i, hi, er⟩ := List.getElem_of_mem mem
      have hi2 : i < es.size := by simpa using hi
      have hr : es[i]? = some r := by rw [Array.getElem?_eq_getElem hi2, ← er] <;> simp
      have hp : i < t.place.toList.length := by
        have h2 := R.tab.sz
        rw [len_hashes] at h2
        rw [Array.length_toList, h2]
        exact hi2
      have hhs : (hashes es)[i]? = some h := by
        unfold hashes
        rw [List.getElem?_map, Array.getElem?_toList, hr, ← eh] <;> rfl
      obtain ⟨k, hk, ek⟩ := R.tab.before out hhs (List.getElem?_eq_getElem hp)
      exact passed (K - c) (Nat.le_refl _) no k (by rw [far]; exact hk) i r (by rw [List.getElem?_eq_getElem hp, ek]) hr eh
end
end MX
end
section
/-! Sets of tuples of numbers and words. -/
namespace MX
open PySem PySem.Spec PyProof.Rows L2

abbrev MT : Type := List Key
/-- the tuple at a has these items -/
abbrev TAt (P : Program) (w : World) (h : Heap) (k : MT) (a : Addr) : Prop := IsTupleKey (mixKind P w) h k a
abbrev mhash (P : Program) (w : World) (k : MT) : Int := tupleKeyHash (mixKind P w) k

/-- a number or a word -/
def Leaf (v : Value) : Prop := (∃ i t, v = .int i t) ∨ ∃ x t, v = .str x t
theorem Leaf.of_key {P : Program} {w : World} {k : Key} {v : Value} (h : (mixKind P w).is k v = true) : Leaf v := by
  rcases keyIs_shape h with ⟨i, t, _, e⟩ | ⟨x, t, _, e⟩
  · exact .inl ⟨i, t, e⟩
  · exact .inr ⟨x, t, e⟩
theorem leaves {P : Program} {w : World} {k : MT} {vs : List Value} (h : ItemsAre (mixKind P w) k vs) : ∀ v ∈ vs, Leaf v := by
  induction h with
  | nil => intro v hv; cases hv
  | cons h1 _ ih =>
    intro v hv
    rcases List.mem_cons.mp hv with rfl | hv
    · exact Leaf.of_key h1
    · exact ih v hv
theorem leaf_class {v : Value} (l : Leaf v) (n : Nat) : ofAClassStatement n v = pure false := by
  rcases l with ⟨i, t, rfl⟩ | ⟨x, t, rfl⟩ <;> cases n <;> rfl
theorem leaf_hash {v : Value} (l : Leaf v) (n : Nat) : ∃ b, hashByValue n v = pure b := by
  rcases l with ⟨i, t, rfl⟩ | ⟨x, t, rfl⟩
  · exact ⟨true, by cases n <;> rfl⟩
  · exact ⟨false, by cases n <;> rfl⟩
theorem tat_kept {P : Program} {w : World} {h h' : Heap} {k : MT} {a : Addr} (x : TAt P w h k a) (keep : ∀ b o, h.get? b = some o → h'.get? b = some o) : TAt P w h' k a := by
  obtain ⟨o, items, n, ho, more⟩ := x
  exact ⟨o, items, n, keep a o ho, more⟩

section
variable {P : Program} {w : World} {A : Around} {E : Value → Shared → Prop} {s : Shared}

/-- the items of a sequence are read off its object -/
theorem items_read {M : Model} {β : Type} {v : Value} {a : Addr} {items : Array Value} {k : Option (Array Value) → Sem β} {Q : β → Shared → Prop} (at_ : ∃ o n, s.heap.get? a = some o ∧ o.data = .seq items n) (go : wpAny M A (k (some items)) Q E s) (ev : v = .ref a := by rfl) : wpAny M A (seqItems? v >>= k) Q E s := by
  obtain ⟨o, n, ho, hd⟩ := at_
  subst ev
  exact wpAny_bind (wpAny_seqItems ho hd go)
/-- a loop over items, item by item -/
theorem each_item {M : Model} {β : Type} {items : Array Value} {z : β} {f : Value → β → Sem (ForInStep β)} {Q : β → Shared → Prop} (I : List Value → β → Shared → Prop) (i0 : I items.toList z s)
    (turn : ∀ v rest r s', I (v :: rest) r s' → wpAny M A (f v r) (fun y s'' => match y with | .yield r' => I rest r' s'' | .done r' => Q r' s'') E s') (last : ∀ r s', I [] r s' → Q r s') : wpAny M A (forIn items z f) Q E s := by
  simpa using wpAny_forIn_list f I Q turn last items.toList z i0

/-- whether it is hashed by value: either answer -/
theorem ask_hash {k : MT} {b : Addr} {Q : Bool → Shared → Prop} (x : TAt P w s.heap k b) (q : ∀ y, Q y s) : wpAny (model P w) A (hashByValue 8 (.ref b)) Q E s := by
  have ty := x.typeIs
  obtain ⟨o, items, n, ho, _, hd, hi⟩ := x
  have lv := leaves hi
  unfold hashByValue
  refine wpAny_bind (wpAny_specialOf ty F.slot_tuple_hash.lookup ?_)
  refine items_read (v := .ref b) ⟨o, n, ho, hd⟩ (wpAny_bind (each_item (fun rest _ s' => s' = s ∧ ∀ v ∈ rest, Leaf v) ⟨rfl, lv⟩ (fun v rest r s' ⟨es, all⟩ => ?_) fun r s' ⟨es, _⟩ => ?_))
  · obtain ⟨y, ey⟩ := leaf_hash (all v List.mem_cons_self) 7
    subst es
    rw [ey]
    refine wpAny_bind (wpAny_pure ?_)
    cases y with
    | true => exact wpAny_pure ⟨rfl, fun u hu => all u (List.mem_cons_of_mem _ hu)⟩
    | false => exact wpAny_pure (wpAny_pure (q _))
  · subst es
    obtain ⟨r1, r2⟩ := r
    cases r1 with
    | none => exact wpAny_pure (q _)
    | some z => exact wpAny_pure (q _)

/-- no class statement's object is under it -/
theorem ask_class {k : MT} {b : Addr} {Q : Bool → Shared → Prop} (x : TAt P w s.heap k b) (q : Q false s) : wpAny (model P w) A (ofAClassStatement 8 (.ref b)) Q E s := by
  have ty := x.typeIs
  obtain ⟨o, items, n, ho, _, hd, hi⟩ := x
  have lv := leaves hi
  unfold ofAClassStatement
  refine wpAny_bind (wpAny_typeOf ty ?_)
  have e : (("tuple" : String) == "tuple") = true := by decide
  simp only [e, if_true]
  refine wpAny_bind (wpAny_pure ?_)
  simp only [Bool.not_true, Bool.false_eq_true, if_false]
  refine items_read (v := .ref b) ⟨o, n, ho, hd⟩ (wpAny_bind (each_item (fun rest r s' => r.1 = none ∧ s' = s ∧ ∀ v ∈ rest, Leaf v) ⟨rfl, rfl, lv⟩ (fun v rest r s' ⟨er, es, all⟩ => ?_) fun r s' ⟨er, es, _⟩ => ?_))
  · rw [leaf_class (all v List.mem_cons_self)]
    exact wpAny_bind (wpAny_pure (wpAny_pure ⟨rfl, es, fun u hu => all u (List.mem_cons_of_mem _ hu)⟩))
  · obtain ⟨r1, r2⟩ := r
    dsimp only at er
    subst er es
    exact wpAny_pure q

/-- a search among such tuples is seen by nobody -/
theorem ask_seen {k : MT} {b : Addr} {Q : Bool → Shared → Prop} (x : TAt P w s.heap k b) {ys : List Value} (hy : ∀ y ∈ ys, ∃ k' c, y = .ref c ∧ TAt P w s.heap k' c) (q : Q false s) : wpAny (model P w) A (searchCouldBeSeen (.ref b) ys) Q E s := by
  unfold searchCouldBeSeen
  refine wpAny_bind ?_
  refine wpAny_forIn_list _ (fun rest r s' => r.1 = none ∧ s' = s ∧ ∀ y ∈ rest, ∃ k' c, y = .ref c ∧ TAt P w s.heap k' c) _ (fun v rest r s' ⟨er, es, all⟩ => ?_) (fun r s' ⟨er, es, _⟩ => ?_) _ _ ⟨rfl, rfl, hy⟩
  · obtain ⟨k', c, rfl, xc⟩ := all v List.mem_cons_self
    have left : ∀ y ∈ rest, ∃ k' c, y = Value.ref c ∧ TAt P w s.heap k' c := fun u hu => all u (List.mem_cons_of_mem _ hu)
    subst es
    dsimp only
    rcases Bool.eq_false_or_eq_true (b == c || (carriedByValue (.ref b) && carriedByValue (.ref c))) with y | n
    · exact wp_if_pos y (wpAny_pure ⟨rfl, rfl, left⟩)
    · refine wp_if_neg (by rw [n]; decide) (wpAny_bind (wpAny_eqIsQuiet_tuple x ?_))
      refine wp_if_neg (by decide) (wpAny_bind (wpAny_eqIsQuiet_tuple xc ?_))
      refine wp_if_neg (by decide) (wpAny_bind (ask_class x ?_))
      refine wp_if_neg (by decide) (wpAny_bind (ask_class xc ?_))
      exact wp_if_neg (by decide) (wpAny_pure ⟨rfl, rfl, left⟩)
  · obtain ⟨r1, r2⟩ := r
    dsimp only at er
    subst er es
    exact wpAny_pure q
end
end MX
end
section
/-! A tuple is added to a set of tuples. -/
namespace MX
open PySem PySem.Spec PyProof.Rows L2

abbrev rowT (P : Program) (w : World) (p : Addr × MT) : Int × Value := (mhash P w p.2, .ref p.1)
/-- the set at a has these tuples: where each stands, and what it is -/
structure SetM (P : Program) (w : World) (h : Heap) (a : Addr) (L : List (Addr × MT)) : Prop where
  held : ∃ es ep t, Held w h a es ep t ∧ es.toList.Perm (L.map (rowT P w))
  once : (L.map (·.2)).Nodup
  here : ∀ p ∈ L, TAt P w h p.2 p.1
open Classical in
/-- with one more, if it is new -/
noncomputable def oneMore (L : List (Addr × MT)) (x : Addr) (k : MT) : List (Addr × MT) := if k ∈ L.map (fun p : Addr × MT => p.2) then L else (x, k) :: L

theorem SetM.kept {P : Program} {w : World} {h h' : Heap} {a : Addr} {L : List (Addr × MT)} (R : SetM P w h a L) (k : ∀ b o, h.get? b = some o → h'.get? b = some o) : SetM P w h' a L := by
  obtain ⟨es, ep, t, H, pm⟩ := R.held
  exact ⟨⟨es, ep, t, H.stays (k a), pm⟩, R.once, fun p hp => tat_kept (R.here p hp) k⟩
theorem size_of {P : Program} {w : World} {es : Array (Int × Value)} {L : List (Addr × MT)} (pm : es.toList.Perm (L.map (rowT P w))) : es.size = L.length := by
  have e := pm.length_eq
  rw [List.length_map, Array.length_toList] at e
  exact e

section
variable {P : Program} {w : World} {A : Around} {E : Value → Shared → Prop} {s : Shared}

/-- tuples stay where a set is stored to -/
theorem tat_but {h h' : Heap} {a b : Addr} {k : MT} {o : Obj} {es : Array (Int × Value)} {ep : Nat} {t : SetTable} (x : TAt P w h k b) (ho : h.get? a = some o) (hd : o.data = .set es ep t) (sb : Heap.SameBut a h h') : TAt P w h' k b := by
  obtain ⟨u, items, n, hu, hc, hi, more⟩ := x
  have ne : b ≠ a := fun e => by
    subst e
    rw [ho] at hu
    cases hu
    rw [hd] at hi
    cases hi
  exact ⟨u, items, n, (sb.2 b ne).trans hu, hc, hi, more⟩

theorem add_tup {a x : Addr} {L : List (Addr × MT)} {k : MT} {Q : Bool → Shared → Prop} (R : SetM P w s.heap a L) (hx : TAt P w s.heap k x) (hu : A.units < cLine) (room : L.length + 1 < 64)
    (q : ∀ b h', Heap.SameBut a s.heap h' → SetM P w h' a (oneMore L x k) → Q b { s with heap := h' }) : wpAny (model P w) A (setAddHashed a (.ref x) (mhash P w k)) Q E s := by
  obtain ⟨es, ep, t, H, pm⟩ := R.held
  obtain ⟨o, ho, ex, hd⟩ := H.obj
  have sz := size_of pm
  have rows : ∀ e ∈ es.toList, ∃ p ∈ L, e = rowT P w p := fun e he => by
    obtain ⟨p, hp, z⟩ := List.mem_map.mp (pm.mem_iff.mp he)
    exact ⟨p, hp, z.symm⟩
  have one : ∀ p ∈ L, ∀ p' ∈ L, p.1 = p'.1 → p.2 = p'.2 := fun p hp p' hp' e => by
    have z := R.here p' hp'
    rw [← e] at z
    exact (tupleKind (mixKind P w)).inj (R.here p hp) z
  obtain ⟨K, low, out, ins⟩ := H.tab.first (by rw [len_hashes]; have := H.space; omega) (mhash P w k)
  have small : 10 * SetTable.turns t.mask ≤ 1420 := by
    unfold SetTable.turns
    rcases H.tab.mok with e | e | e <;> omega
  have none_in : (∀ e ∈ es.toList, e.1 = mhash P w k → (decide (∃ p ∈ L, e.2 = Value.ref p.1 ∧ p.2 = k)) = false) → k ∉ L.map (·.2) := fun no hm => by
    obtain ⟨p, hp, e⟩ := List.mem_map.mp hm
    have z := no (rowT P w p) (pm.mem_iff.mpr (List.mem_map_of_mem hp)) (by show mhash P w p.2 = _; rw [e])
    exact of_decide_eq_false z ⟨p, hp, rfl, e⟩
  unfold setAddHashed
  refine wpAny_holding ?_
  rw [show (100000 : Nat) = 99999 + 1 from rfl, setAddHashedIn_succ]
  refine wpAny_bind (wpAny_setState_of ho hd H.fits ?_)
  dsimp only
  refine wp_if_neg (by simp [byScan, Value.scannable]) ?_
  try refine wpAny_bind (wpAny_pure ?_)
  refine wpAny_bind ?_
  unfold setSearch
  refine seek (same := fun v => decide (∃ p ∈ L, v = Value.ref p.1 ∧ p.2 = k)) H (fun e he eh Q' q' => ?_) (fun e he => ?_) (fun ys Q' hy q' => ?_) low out ins (fun e he eh yes => ?_) (fun no => ?_) 100000 0 none rfl (Nat.zero_le _) (by omega) (fun c hc => absurd hc (Nat.not_lt_zero c))
  · obtain ⟨p, hp, rfl⟩ := rows e he
    refine wpAny_eqBool_tuple hu (R.here p hp) hx ?_
    have z : decide (∃ p' ∈ L, (rowT P w p).2 = Value.ref p'.1 ∧ p'.2 = k) = decide (p.2 = k) := by
      apply decide_eq_decide.mpr
      constructor
      · rintro ⟨p', hp', e1, e2⟩
        have e3 : p.1 = p'.1 := by injection e1
        rw [one p hp p' hp' e3]
        exact e2
      · exact fun e => ⟨p, hp, rfl, e⟩
    rw [z] at q'
    exact q'
  · obtain ⟨p, hp, rfl⟩ := rows e he
    exact ⟨p.1, rfl⟩
  · refine ask_seen hx (fun y my => ?_) q'
    obtain ⟨e, he, rfl⟩ := hy y my
    obtain ⟨p, hp, rfl⟩ := rows e he
    exact ⟨p.2, p.1, rfl, R.here p hp⟩
  · obtain ⟨p, hp, e1, e2⟩ := of_decide_eq_true yes
    refine wpAny_pure (q false s.heap (Heap.SameBut.refl a s.heap) ?_)
    unfold oneMore
    rw [if_pos (List.mem_map.mpr ⟨p, hp, e2⟩)]
    exact R
  · have new := none_in no
    obtain ⟨pl, t', e1, T', em, eled, sz', pm', ef⟩ := tab_in H.tab (mhash P w k) (.ref x) out ins
    have ord : w.params.followText "set-order" = true ∨ t'.led = true := H.order.imp id fun z => eled.trans z
    have sp : es.size * 5 < t'.mask * 3 := by rw [em]; exact H.space
    have few' : (SetTable.insertAt es pl (mhash P w k, .ref x)).size < 64 := by rw [sz', sz]; exact room
    have done : ∀ h' es2 ep2 t2, Heap.SameBut a s.heap h' → Held w h' a es2 ep2 t2 → es2.toList.Perm (SetTable.insertAt es pl (mhash P w k, .ref x)).toList → Q true { s with heap := h' } := fun h' es2 ep2 t2 sb H2 p2 => by
      refine q true h' sb ?_
      unfold oneMore
      rw [if_neg new]
      refine ⟨⟨es2, ep2, t2, H2, ?_⟩, ?_, fun p hp => ?_⟩
      · rw [List.map_cons]
        exact (p2.trans pm').trans (pm.cons _)
      · rw [List.map_cons]
        exact List.nodup_cons.mpr ⟨new, R.once⟩
      · rcases List.mem_cons.mp hp with rfl | hp
        · exact tat_but hx ho hd sb
        · exact tat_but (R.here p hp) ho hd sb
    dsimp only
    refine wpAny_bind (wpAny_setState_of ho hd H.fits ?_)
    dsimp only
    rw [e1]
    dsimp only
    have rest : ∀ t2 : SetTable, TabOk t2 (hashes (SetTable.insertAt es pl (mhash P w k, .ref x))) → (w.params.followText "set-order" = true ∨ t2.led = true) → es.size * 5 < t2.mask * 3 →
        wpAny (model P w) A (do
          storeSet a (SetTable.insertAt es pl (mhash P w k, .ref x)) t2
          if (!false && t2.tooFull) = true then do
            setRelay a (SetTable.grown (es.size + 1))
            pure true
          else pure true) Q E s := fun t2 T2 ord2 sp2 => by
      refine wpAny_bind (wpAny_storeSet_of ho hd ?_ (sizes few'))
      have sb1 := Heap.SameBut.update s.heap a (Obj.putSet (SetTable.insertAt es pl (mhash P w k, .ref x)) t2)
      have o1 := Heap.get?_update_self (Obj.putSet (SetTable.insertAt es pl (mhash P w k, .ref x)) t2) ho (by rw [putSet_of _ t2 hd] <;> rfl)
      rw [putSet_of _ t2 hd] at o1
      rcases Bool.eq_false_or_eq_true t2.tooFull with full | nf
      · rw [full]
        refine wp_if_pos rfl (wpAny_bind ?_)
        rw [← sz']
        refine relay_end (n := es.size) o1 ex rfl T2 ord2 sp2 sz' few' full fun h' es2 ep2 t3 sb H2 p2 => ?_
        exact wpAny_pure (done h' es2 ep2 t3 (sb1.trans sb) H2 p2)
      · rw [nf]
        refine wp_if_neg (by decide) (wpAny_pure (done _ _ _ t2 sb1 (put_rows ho ex hd T2 ord2 ?_ few') (List.Perm.refl _)))
        have e := T2.sz
        rw [len_hashes] at e
        have big := nf
        simp only [SetTable.tooFull, SetTable.fill, T2.dm, e, decide_eq_false_iff_not] at big
        simp at big
        omega
    by_cases plain : t'.plain = true
    · refine wp_if_pos plain (wpAny_bind (ask_hash hx fun y => ?_))
      cases y with
      | true => exact rest t' T' ord sp
      | false => exact rest { t' with plain := false } (dull T') ord sp
    · exact wp_if_neg plain (wpAny_bind (wpAny_pure (rest t' T' ord sp)))
end
end MX
end
section
/-! set(xs): the members come one by one. -/
namespace MX
open PySem PySem.Spec PyProof.Rows L2

/-- a set that was just made -/
abbrev newbie (w : World) : Obj := { cls := .type "set", dict := none, data := .set #[] 0 (.fresh 0 0 (!w.params.followText "set-order")) }
theorem held_new {w : World} {h : Heap} {a : Addr} (ho : h.get? a = some (newbie w)) : Held w h a #[] 0 (.fresh 0 0 (!w.params.followText "set-order")) := by
  refine ⟨⟨_, ho, ⟨rfl, rfl, rfl⟩, rfl⟩, ⟨List.Pairwise.nil, rfl, rfl, .inl rfl, fun x hx => ?_, fun i k j hi _ => ?_⟩, ?_, ?_, ?_⟩
  · simp [SetTable.fresh] at hx
  · simp [hashes] at hi
  · cases e : w.params.followText "set-order" with
    | true => exact .inl rfl
    | false => exact .inr rfl
  · show 0 * 5 < 7 * 3
    decide
  · show 0 < 64
    decide

section
variable {P : Program} {w : World} {A : Around} {E : Value → Shared → Prop} {s : Shared}

/-- the loop that fills a set; J tells what is known when so many have come -/
theorem fill {I S : Addr} {fp wr : List Addr} {G : Array GenState → Array GenState → Prop} {n : Nat} {Pv : Nat → Value → Prop} {St : Nat → Shared → Prop} {R : Result → Shared → Prop}
    (W : WalksS P w A.in1 I fp wr G n Pv St) (out : S ∉ fp) (J : Nat → Heap → Prop)
    (calm : ∀ i h h', J i h → (∀ b o, b ∉ wr → h.get? b = some o → h'.get? b = some o) → J i h')
    (put : ∀ i v (s1 : Shared) (E' : Value → Shared → Prop) (Q' : Bool → Shared → Prop), i < n → Pv i v → J i s1.heap →
      (∀ b h' tk, s1.toks ≤ tk → Heap.SameBut S s1.heap h' → J (i + 1) h' → Q' b { s1 with heap := h', toks := tk }) → wpAny (model P w) A.in1 (setAdd S v) Q' E' s1) :
    ∀ (k i : Nat) (s : Shared), k + i = n → St i s → J i s.heap → (∀ s', Moved (S :: wr) G s s' → J n s'.heap → R (.ok (.ret .none)) s') →
      codeAny (model P w) A (.builtin "set.update.loop" ⟨[.ref S, .ref I], []⟩) R s := by
  have wider : ∀ b ∈ wr, b ∈ S :: wr := fun b hb => List.mem_cons_of_mem S hb
  intro k
  induction k with
  | zero =>
    intro i s e st j fin
    obtain rfl : i = n := by omega
    refine codeAny_builtin F.entry_set_update_loop ?_
    rw [Around.under_plainId F.plain_set_update_loop]
    unfold Builtin.«set.update.loop»
    exact wpAny_bind (W.done s _ _ st fun s' m => wpAny_pure (fin s' (m.mono wider) (calm i _ _ j m.heap)))
  | succ k next =>
    intro i s e st j fin
    have lt : i < n := by omega
    refine codeAny_builtin F.entry_set_update_loop ?_
    rw [Around.under_plainId F.plain_set_update_loop]
    unfold Builtin.«set.update.loop»
    refine wpAny_bind (W.item i s _ _ lt st fun v s1 pv st1 m => ?_)
    refine wpAny_bind (wpAny_holding (put i v s1 _ _ lt pv (calm i _ _ j m.heap) fun b h' tk le sb j1 => ?_))
    have st2 : St (i + 1) { s1 with heap := h', toks := tk } := W.frame (i + 1) s1 h' tk st1 le fun c hc o ho => (sb.2 c fun z => out (z ▸ hc)).trans ho
    refine wpAny_pure ⟨plainId_quiet F.plain_set_update_loop _, next (i + 1) _ (by omega) st2 j1 fun s' m' jn => fin s' ?_ jn⟩
    refine Moved.trans W.gtrans ((m.mono wider).then_heap le fun c o hc ho => ?_) m'
    exact (sb.2 c fun z => hc (z ▸ List.mem_cons_self)).trans ho

/-- a call of set with one argument: the new set's own filling -/
theorem set_call {x : Value} {Q : Value → Shared → Prop}
    (body : ∀ A' : Around, (A.handled = none → A'.handled = none) → A'.units ≤ A.units + 3 → wpAny (model P w) A' (Builtin.«set.__init__» ⟨[.ref s.heap.objs.size, x], []⟩)
      (fun r s2 => r = .done (.ret .none) ∧ Q (.ref s.heap.objs.size) s2) E { s with heap := s.heap.push (newbie w) }) :
    wpAny (model P w) A (call (.type "set") [x]) Q E s := by
  have T := F.called_set
  obtain ⟨top, below, e0⟩ := T.mro
  have e1 := T.made
  have e2 := T.sub
  have e3 := T.notType
  have e4 := T.canCreate
  have e5 := F.typeCall_set_1 x
  refine wpAny_call (codeAny_of_tree ?_)
  show wpAny _ _ (callAny (Value.type "set") ⟨[x], []⟩) _ _ _
  refine wpAny_pure (And.intro (Code.quiet_builtin _ (by decide +kernel)) (codeAny_builtin F.entry_type_call ?_))
  rw [Around.under_plain (weight_type_call_type "set" [x] []) rfl]
  repeat (any_goals (first | assumption | wp_step))
  refine codeAny_mono (code_set_led1 x (E := E) (Q₁ := fun v s1 => v = .ref s.heap.objs.size ∧ s1 = { s with heap := s.heap.push (newbie w) }) ⟨rfl, rfl⟩) fun r s1 hr => ?_
  match r, hr with
  | .error _, hr => exact hr
  | .ok (.ret v), hr =>
    obtain ⟨rfl, rfl⟩ := hr
    have here : Shared.TypeIs { s with heap := s.heap.push (newbie w) } (.ref s.heap.objs.size) "set" := ⟨newbie w, Heap.get?_push_size _ rfl, rfl⟩
    have e6 := T.init.lookup
    have e7 := T.init.bind (.ref s.heap.objs.size)
    repeat (any_goals (first | assumption | wp_step))
    refine codeAny_mono (codeAny_call_builtin (R := wants (fun v s2 => v = .none ∧ Q (.ref s.heap.objs.size) s2) E) T.init.plain F.entry_set_init (check_set_init_1 here ?_)) fun r2 s2 hr2 => ?_
    · refine wpAny_mono (body _ (fun h => by simp [h]) ?_) (fun fin s3 ⟨ef, q⟩ => ?_) fun _ _ z => z
      · simp only [Around.in1_units]
        omega
      · subst ef
        exact ⟨rfl, q⟩
    · match r2, hr2 with
      | .error _, hr2 => exact hr2
      | .ok (.ret _), hr2 =>
        obtain ⟨rfl, q⟩ := hr2
        repeat (any_goals (first | assumption | wp_step))

set_option maxHeartbeats 2000000 in
/-- set(xs) of a list or tuple -/
theorem set_seq {l : Addr} {items : Array Value} {Q : Value → Shared → Prop} (hl : s.heap.IsList l items ∨ s.heap.IsTuple l items) (hh : A.handled = none) (J : Nat → Heap → Prop)
    (start : ∀ h', (∀ b o, s.heap.get? b = some o → h'.get? b = some o) → h'.get? s.heap.objs.size = some (newbie w) → J 0 h')
    (calm : ∀ i h h', J i h → (∀ b o, b ≤ s.heap.objs.size → h.get? b = some o → h'.get? b = some o) → J i h')
    (put : ∀ (A' : Around) i v (s1 : Shared) (E' : Value → Shared → Prop) (Q' : Bool → Shared → Prop), A'.units ≤ A.units + 4 → items[i]? = some v → J i s1.heap → (∀ b o, s.heap.get? b = some o → s1.heap.get? b = some o) →
      (∀ b h' tk, s1.toks ≤ tk → Heap.SameBut s.heap.objs.size s1.heap h' → J (i + 1) h' → Q' b { s1 with heap := h', toks := tk }) → wpAny (model P w) A' (setAdd s.heap.objs.size v) Q' E' s1)
    (q : ∀ h' tk, J items.size h' → (∀ b o, s.heap.get? b = some o → h'.get? b = some o) → Q (.ref s.heap.objs.size) { s with heap := h', toks := tk }) :
    wpAny (model P w) A (call (.type "set") [.ref l]) Q E s := by
  refine set_call fun A' hA units => ?_
  have quiet : A'.handled = none := hA hh
  have quiet1 : A'.in1.handled = none := quiet
  have older : ∀ b o, s.heap.get? b = some o → (s.heap.push (newbie w)).get? b = some o := fun b o e => Heap.get?_push_of_some _ e
  have made : (s.heap.push (newbie w)).get? s.heap.objs.size = some (newbie w) := Heap.get?_push_size _ rfl
  have big : (s.heap.push (newbie w)).objs.size = s.heap.objs.size + 1 := Heap.size_push ..
  have none_above : s.heap.get? s.heap.objs.size = none := by
    cases e : s.heap.get? s.heap.objs.size with
    | none => rfl
    | some o => exact absurd (Heap.lt_size e) (Nat.lt_irrefl _)
  have loop : ∀ {I : Addr} {fp : List Addr} {Pv : Nat → Value → Prop} {St : Nat → Heap → Prop} (s2 : Shared), I = s.heap.objs.size + 1 → Walks P w A'.in1 I fp [I] items.size Pv St → s.heap.objs.size ∉ fp → (∀ i v, Pv i v → items[i]? = some v) →
      (∀ b o, s.heap.get? b = some o → s2.heap.get? b = some o) → s2.heap.get? s.heap.objs.size = some (newbie w) → s2.gens = s.gens → s2.drawn = s.drawn → s2.os = s.os → St 0 s2.heap →
      codeAny (model P w) A' (.builtin "set.update.loop" ⟨[.ref s.heap.objs.size, .ref I], []⟩) (fun r s3 => r = .ok (.ret .none) ∧ Q (.ref s.heap.objs.size) s3) s2 := by
    intro I fp Pv St s2 eI W hfp hPv old2 made2 g2 d2 o2 st
    refine fill W.toS hfp (fun i h => J i h ∧ ∀ b o, s.heap.get? b = some o → h.get? b = some o) (fun i h h' ⟨j, old⟩ k => ⟨calm i h h' j fun b o le e => k b o ?_ e, fun b o e => k b o ?_ (old b o e)⟩) ?_ items.size 0 s2 (by omega) st ⟨start _ old2 made2, old2⟩ ?_
    · rw [List.mem_singleton, eI]
      exact Nat.ne_of_lt (Nat.lt_succ_of_le le)
    · rw [List.mem_singleton, eI]
      exact Nat.ne_of_lt (Nat.lt_succ_of_lt (Heap.lt_size e))
    · intro i v s1 E' Q' lt pv ⟨j, old⟩ k
      refine put A'.in1 i v s1 E' Q' (by simp only [Around.in1_units]; omega) (hPv i v pv) j old fun b h' tk le sb j1 => k b h' tk le sb ⟨j1, fun c o e => ?_⟩
      exact (sb.2 c fun z => by rw [z, none_above] at e; cases e).trans (old c o e)
    · intro s' m ⟨j, old⟩
      refine ⟨rfl, ?_⟩
      obtain ⟨h', g', d', tk', os'⟩ := s'
      obtain rfl : g' = s.gens := (Eq.trans m.gens g2)
      obtain rfl : d' = s.drawn := m.drawn.trans d2
      obtain rfl : os' = s.os := m.os.trans o2
      exact q h' tk' j old
  have other : s.heap.objs.size ∉ [(s.heap.push (newbie w)).objs.size, l] ∧ l ≠ (s.heap.push (newbie w)).objs.size := by
    have lt : l < s.heap.objs.size := by
      rcases hl with ⟨o, ho, _⟩ | ⟨o, ho, _⟩ <;> exact Heap.lt_size ho
    rw [big]
    refine ⟨fun z => ?_, fun z => ?_⟩
    · rcases List.mem_cons.mp z with z | z
      · exact absurd z (Nat.ne_of_lt (Nat.lt_succ_self _))
      · exact absurd (List.mem_singleton.mp z) (Nat.ne_of_gt lt)
    · exact absurd z (Nat.ne_of_lt (Nat.lt_succ_of_lt lt))
  rcases hl with hl | hl
  · obtain ⟨⟨c, dict, data, slots⟩, ho, hc, n, hd⟩ := hl
    simp only at hc hd
    subst hc hd
    have ho1 : (s.heap.push (newbie w)).get? l = some { cls := .type "list", dict := dict, data := .seq items n, slots := slots } := older l _ ho
    have hl1 : (s.heap.push (newbie w)).IsList l items := ⟨_, ho1, rfl, n, rfl⟩
    have f1 := F.sub_list_set
    have f2 := F.sub_list_frozenset
    have f3 : (Value.type "list" == Value.type "dict") = false := by decide
    unfold Builtin.«set.__init__» noKeywords Builtin.Frozenset.updateFrom
    generalize hit : pyIter = iter
    wp_walk
    subst hit
    refine wpAny_pyIter_list hl1 (wpAny_bind (wpAny_runValue ?_))
    refine codeAny_mono (loop _ big (Walks.list quiet1 _ l other.2 items) other.1 (fun i v e => e) (fun b o e => Heap.get?_push_of_some _ (older b o e)) (Heap.get?_push_of_some _ made) rfl rfl rfl ⟨⟨_, Heap.get?_push_size _ rfl, rfl, rfl⟩, hl1.push _⟩) fun r s3 ⟨er, q3⟩ => ?_
    subst er
    exact wpAny_pure (wpAny_pure ⟨rfl, q3⟩)
  · obtain ⟨⟨c, dict, data, slots⟩, ho, hc, n, hd⟩ := hl
    simp only at hc hd
    subst hc hd
    have ho1 : (s.heap.push (newbie w)).get? l = some { cls := .type "tuple", dict := dict, data := .seq items n, slots := slots } := older l _ ho
    have hl1 : (s.heap.push (newbie w)).IsTuple l items := ⟨_, ho1, rfl, n, rfl⟩
    have f1 := F.sub_tuple_set
    have f2 := F.sub_tuple_frozenset
    have f3 : (Value.type "tuple" == Value.type "dict") = false := by decide
    unfold Builtin.«set.__init__» noKeywords Builtin.Frozenset.updateFrom
    generalize hit : pyIter = iter
    wp_walk
    subst hit
    refine wpAny_pyIter_tuple hl1 (wpAny_bind (wpAny_runValue ?_))
    refine codeAny_mono (loop _ big (Walks.tuple quiet1 _ l other.2 items) other.1 (fun i v e => e) (fun b o e => Heap.get?_push_of_some _ (older b o e)) (Heap.get?_push_of_some _ made) rfl rfl rfl ⟨⟨_, Heap.get?_push_size _ rfl, rfl, rfl⟩, hl1.push _⟩) fun r s3 ⟨er, q3⟩ => ?_
    subst er
    exact wpAny_pure (wpAny_pure ⟨rfl, q3⟩)
end
end MX
end
section
/-! The orders of keys and of tuples of keys; lists that rise. -/
namespace MX
open PySem PySem.Spec PyProof.Rows L2 PySem.W

def ofKey : Key → PyData
  | .inl i => .int i
  | .inr x => .str x
def ofTup (k : MT) : PyData := .tuple (k.map ofKey)
def tks (k : MT) : List (Int ⊕ List Nat) := keyToks (ofTup k)
/-- the order of numbers, and of words -/
def kl (a b : Key) : Bool := dataLt (ofKey a) (ofKey b)
/-- the order of tuples -/
def klt (a b : MT) : Bool := lexLt itemOrd (tks a) (tks b)
abbrev Up (l : List Key) : Prop := l.Pairwise fun a b => kl a b = true
abbrev Rise (l : List MT) : Prop := l.Pairwise fun a b => klt a b = true

theorem depth_ofKey : ∀ l : MT, PyData.depthAll (l.map ofKey) = 0
  | [] => rfl
  | k :: l => by
    rw [List.map_cons, PyData.depthAll, depth_ofKey l]
    cases k <;> rfl
theorem kl_irrefl (a : Key) : kl a a = false := lex_irrefl (O := itemOrd) _
theorem klt_irrefl (a : MT) : klt a a = false := lex_irrefl (O := itemOrd) _
theorem kl_int (a b : Int) : kl (.inl a) (.inl b) = decide (a < b) := dataLt_int a b

/-- two lists that rise by an order and have the same members are one -/
theorem same_rising {α : Type} {lt : α → α → Bool} (irr : ∀ a, lt a a = false) (tr : ∀ a b c, lt a b = true → lt b c = true → lt a c = true) :
    ∀ {l m : List α}, l.Pairwise (fun a b => lt a b = true) → m.Pairwise (fun a b => lt a b = true) → (∀ x, x ∈ l ↔ x ∈ m) → l = m
  | [], [], _, _, _ => rfl
  | [], y :: m, _, _, h => absurd ((h y).mpr List.mem_cons_self) (by simp)
  | x :: l, [], _, _, h => absurd ((h x).mp List.mem_cons_self) (by simp)
  | x :: l, y :: m, p, q, h => by
    obtain ⟨p1, p2⟩ := List.pairwise_cons.mp p
    obtain ⟨q1, q2⟩ := List.pairwise_cons.mp q
    have never : ∀ {a b}, lt a b = true → lt b a = true → False := fun {a b} u v => by
      have z := tr a b a u v
      rw [irr] at z
      cases z
    have e : x = y := by
      rcases List.mem_cons.mp ((h x).mp List.mem_cons_self) with e | hx
      · exact e
      · rcases List.mem_cons.mp ((h y).mpr List.mem_cons_self) with e | hy
        · exact e.symm
        · exact absurd (p1 y hy) fun u => never u (q1 x hx)
    subst e
    have out1 : x ∉ l := fun z => by
      have u := p1 x z
      rw [irr] at u
      cases u
    have out2 : x ∉ m := fun z => by
      have u := q1 x z
      rw [irr] at u
      cases u
    rw [same_rising irr tr p2 q2 fun z => ?_]
    constructor
    · intro hz
      rcases List.mem_cons.mp ((h z).mp (List.mem_cons_of_mem _ hz)) with e | k
      · exact absurd (e ▸ hz) out1
      · exact k
    · intro hz
      rcases List.mem_cons.mp ((h z).mpr (List.mem_cons_of_mem _ hz)) with e | k
      · exact absurd (e ▸ hz) out2
      · exact k
theorem up_one {l m : List Key} (hl : Up l) (hm : Up m) (h : ∀ k, k ∈ l ↔ k ∈ m) : l = m := same_rising kl_irrefl (fun a b c u v => lex_trans (O := itemOrd) _ _ _ u v) hl hm h
theorem rise_one {l m : List MT} (hl : Rise l) (hm : Rise m) (h : ∀ k, k ∈ l ↔ k ∈ m) : l = m := same_rising klt_irrefl (fun a b c u v => lex_trans (O := itemOrd) _ _ _ u v) hl hm h

/-- what is not less either way, and can be compared, is the same -/
theorem key_same {a b : Key} (al : alike (ofKey a) (ofKey b) = true) (h1 : kl a b = false) (h2 : kl b a = false) : a = b := by
  cases a with
  | inl i =>
    cases b with
    | inl j =>
      rw [kl_int] at h1 h2
      have := of_decide_eq_false h1
      have := of_decide_eq_false h2
      rw [show i = j by omega]
    | inr y => exact absurd al (by simp [ofKey, alike])
  | inr x =>
    cases b with
    | inl j => exact absurd al (by simp [ofKey, alike])
    | inr y =>
      have e1 : decide (x.cps.toList < y.cps.toList) = false := (dataLt_str x y).symm.trans h1
      have e2 : decide (y.cps.toList < x.cps.toList) = false := (dataLt_str y x).symm.trans h2
      have e3 := List.le_antisymm (List.not_lt.mp (of_decide_eq_false e2)) (List.not_lt.mp (of_decide_eq_false e1))
      obtain ⟨xs⟩ := x
      obtain ⟨ys⟩ := y
      rw [show xs = ys from Array.toList_inj.mp e3]
theorem alike_eqv {a b : Key} (al : alike (ofKey a) (ofKey b) = true) : PyData.eqv (ofKey a) (ofKey b) = decide (a = b) := by
  cases a with
  | inl i =>
    cases b with
    | inl j => rw [key_ll]; rfl
    | inr y => exact absurd al (by simp [ofKey, alike])
  | inr x =>
    cases b with
    | inl j => exact absurd al (by simp [ofKey, alike])
    | inr y =>
      rw [key_rr]
      show (x == y) = decide (x = y)
      rcases Classical.em (x = y) with c | c
      · subst c; simp
      · rw [decide_eq_false c]; exact beq_eq_false_iff_ne.mpr c
theorem rows_same : ∀ {a b : MT}, a.length = b.length → alikeAll (a.map ofKey) (b.map ofKey) = true → lexLt itemOrd (keyToksAll (a.map ofKey)) (keyToksAll (b.map ofKey)) = false →
    lexLt itemOrd (keyToksAll (b.map ofKey)) (keyToksAll (a.map ofKey)) = false → a = b
  | [], [], _, _, _, _ => rfl
  | [], _ :: _, e, _, _, _ => by cases e
  | _ :: _, [], e, _, _, _ => by cases e
  | x :: a, y :: b, e, al, h1, h2 => by
    rw [List.map_cons, List.map_cons, alikeAll, Bool.and_eq_true] at al
    obtain ⟨al1, al2⟩ := al
    have al1' : alike (ofKey y) (ofKey x) = true := by cases x <;> cases y <;> simp_all [ofKey, alike]
    rw [List.map_cons, List.map_cons, dataLt_cons al1] at h1
    rw [List.map_cons, List.map_cons, dataLt_cons al1'] at h2
    rw [alike_eqv al1] at h1
    rw [alike_eqv al1'] at h2
    rcases Classical.em (x = y) with c | c
    · subst c
      rw [if_pos (decide_eq_true rfl)] at h1 h2
      rw [rows_same (by simpa using e) al2 h1 h2]
    · rw [if_neg (by simp [c])] at h1
      rw [if_neg (by simp [Ne.symm c])] at h2
      exact absurd (key_same al1 h1 h2) c
end MX
end
section
/-! sorted of a set. -/
namespace MX
open PySem PySem.Spec PyProof.Rows L2 PySem.W

theorem each_perm {β : Type} {R : Value → β → Prop} {us vs : List Value} (p : us.Perm vs) : ∀ {bs : List β}, EachIs R vs bs → ∃ bs', EachIs R us bs' ∧ bs'.Perm bs := by
  induction p with
  | nil => intro bs e; exact ⟨bs, e, List.Perm.refl _⟩
  | cons x _ ih =>
    intro bs e
    cases e with
    | cons r t =>
      obtain ⟨cs, e1, p1⟩ := ih t
      exact ⟨_, .cons r e1, p1.cons _⟩
  | swap x y l =>
    intro bs e
    cases e with
    | cons r1 t =>
      cases t with
      | cons r2 t => exact ⟨_, .cons r2 (.cons r1 t), List.Perm.swap ..⟩
  | trans _ _ ih1 ih2 =>
    intro bs e
    obtain ⟨cs, e1, p1⟩ := ih2 e
    obtain ⟨ds, e2, p2⟩ := ih1 e1
    exact ⟨ds, e2, p2.trans p1⟩

section
variable {P : Program} {w : World} {A : Around} {E : Value → Shared → Prop} {s : Shared} {a : Addr} {es : Array (Int × Value)} {ep : Nat} {t : SetTable}

theorem sort_held {β : Type} {enc : β → PyData} {R : Value → β → Prop} {bs : List β} {Q : Value → Shared → Prop} (at_ : SetAt s.heap a es ep t) (fits : t.fits es.size = true) (low : es.size < scanBound) (ris : Ris t.place.toList) (ord : w.params.followText "set-order" = true ∨ t.led = true) (hh : A.handled = none) (each : EachIs R (es.toList.map (·.2)) bs)
    (reads : ∀ v b (h' : Heap), (∀ c o, s.heap.get? c = some o → h'.get? c = some o) → R v b → Reads h' v (enc b) []) (al : ∀ b ∈ bs, ∀ b' ∈ bs, alike (enc b) (enc b') = true) (hk : ∀ ds : List β, ds.Perm bs → Sortable (ds.map enc))
    (hu : ∀ b ∈ bs, A.units + 3 + (enc b).depth < cLine)
    (q : ∀ s' p (out : Array Value) (c : Nat) (ds : List β), (∀ b o, s.heap.get? b = some o → s'.heap.get? b = some o) → s'.gens = s.gens → s'.os = s.os → s.heap.objs.size ≤ p → s'.heap.get? p = some (seqObj "list" out c) →
      EachIs R out.toList ds → ds.Perm bs → ds.Pairwise (fun b b' => dataLt (enc b') (enc b) = false) → Q (.ref p) s') :
    wpAny (model P w) A (call (.builtin "sorted") [.ref a]) Q E s := by
  refine Calls.call_function_entry kind_sorted plain_sorted entry_sorted (args_sorted1 (.ref a)) ?_
  unfold Builtin.«sorted»
  refine wpAny_bind (m := checkCount "sorted" 1 1 1) (wpAny_pure ?_)
  refine wpAny_bind (collect_set (A := A.in1) hh at_ fits low ris ord fun s1 vs old1 big1 g1 o1 pm => ?_)
  obtain ⟨cs, ecs, pcs⟩ := each_perm pm each
  have few : vs.length ≤ sizeLine := by
    rw [pm.length_eq, List.length_map, Array.length_toList]
    exact fits_of_scanBound low
  have fewc : cs.length ≤ sizeLine := by rw [← ecs.length]; exact few
  refine wpAny_bind (wpAny_newList ?_ few)
  have made : (s1.heap.push (seqObj "list" vs.toArray 0)).get? s1.heap.objs.size = some (seqObj "list" vs.toArray 0) := Heap.get?_push_size _ rfl
  have old2 : ∀ c u, s.heap.get? c = some u → (s1.heap.push (seqObj "list" vs.toArray 0)).get? c = some u := fun c u e => Heap.get?_push_of_some _ (old1 c u e)
  have readable : EachIs (fun v b => ∃ as, Reads (s1.heap.push (seqObj "list" vs.toArray 0)) v (enc b) as ∧ s1.heap.objs.size ∉ as) vs cs := ecs.mono fun v b r => ⟨[], reads v b _ old2 r, by simp⟩
  refine wpAny_bind (wpAny_holding ?_)
  refine list_sort_data (s := { s1 with heap := s1.heap.push (seqObj "list" vs.toArray 0) }) (A := A.in1) made ecs readable ?_ (hk cs pcs) fewc (fun b hb => ?_) fun out len eout => ?_
  · intro d hd d' hd'
    obtain ⟨b, hb, rfl⟩ := List.mem_map.mp hd
    obtain ⟨b', hb', rfl⟩ := List.mem_map.mp hd'
    exact al b (pcs.mem_iff.mp hb) b' (pcs.mem_iff.mp hb')
  · have := hu b (pcs.mem_iff.mp hb)
    simp only [Around.in1_units]
    omega
  · obtain ⟨c, hc⟩ := sortedHeap_at (vs := vs) (out := List.toArray out) made
    refine wpAny_pure ⟨_, rfl, q _ s1.heap.objs.size (List.toArray out) c (cs.mergeSort (dataLe false enc)) (fun b u e => ?_) g1 o1 big1 hc eout ((List.mergeSort_perm _ _).trans pcs) ?_⟩
    · have e1 := old1 b u e
      have lt := Heap.lt_size e1
      show (sortedHeap (s1.heap.push (seqObj "list" vs.toArray 0)) s1.heap.objs.size vs (List.toArray out)).get? b = some u
      rw [sortedHeap_old (Nat.ne_of_lt lt) (by rw [size_push']; exact Nat.lt_succ_of_lt lt)]
      exact Heap.get?_push_of_some _ e1
    · have z := sort_pairwise (le := dataLe false enc) (sortLe_total (listOrd itemOrd) false fun b => keyToks (enc b)) cs
      refine z.imp fun {b b'} e => ?_
      have e' : (!dataLt (enc b') (enc b)) = true := e
      simpa using e'
end
end MX
end
section
/-! set(..) and sorted(..) read: tuples of numbers and words. -/
namespace MX
open PySem PySem.Spec PyProof.Rows L2 PySem.W

/-- the set at a, but for what stands elsewhere -/
structure SetM0 (P : Program) (w : World) (h : Heap) (a : Addr) (L : List (Addr × MT)) : Prop where
  held : ∃ es ep t, Held w h a es ep t ∧ es.toList.Perm (L.map (rowT P w))
  once : (L.map (·.2)).Nodup
def SetMO (P : Program) (w : World) (a : Addr) (L : List (Addr × MT)) : HO := .ext fun h => SetM0 P w h a L
theorem ok_setMO {P : Program} {w : World} {H : Hp} {h : Heap} {a : Addr} {L : List (Addr × MT)} (R : SetM0 P w h a L) : ObjOk P w H h a (SetMO P w a L) := by
  obtain ⟨⟨es, ep, t, K, pm⟩, nd⟩ := R
  refine ⟨⟨⟨es, ep, t, K, pm⟩, nd⟩, ?_, fun h1 h2 p k => ?_⟩
  · obtain ⟨o, ho, _⟩ := K.obj
    exact ⟨o, ho⟩
  · obtain ⟨⟨es, ep, t, K, pm⟩, nd⟩ := p
    exact ⟨⟨es, ep, t, K.stays k, pm⟩, nd⟩

/-- a tuple's items as the model has them -/
theorem items_are {P : Program} {w : World} : ∀ {k : MT} {us : List Value}, Vals (k.map kV) us → ItemsAre (mixKind P w) k us
  | [], _, .nil => .nil
  | _ :: _, _, .cons r t => .cons (kV_is r) (items_are t)
theorem refs_are : ∀ {ks : List (Addr × MT)} {us : List Value}, Vals (ks.map fun p => V.ref p.1) us → us = ks.map fun p => Value.ref p.1
  | [], _, .nil => rfl
  | p :: ks, _, .cons r t => by
    cases r
    rw [refs_are t] <;> rfl
theorem vals_refs : ∀ {ks : List (Addr × MT)} {us : List Value}, EachIs (fun v (p : Addr × MT) => v = .ref p.1) us ks → Vals (ks.map fun p => V.ref p.1) us
  | [], _, .nil => .nil
  | p :: ks, _, .cons e t => by
    subst e
    exact .cons rfl (vals_refs t)
theorem each_refs : ∀ ks : List (Addr × MT), EachIs (fun v (p : Addr × MT) => v = .ref p.1) (ks.map fun p => Value.ref p.1) ks
  | [] => .nil
  | _ :: ks => .cons rfl (each_refs ks)
theorem reads_items {P : Program} {w : World} {h : Heap} {k : MT} {us : List Value} (x : ItemsAre (mixKind P w) k us) : ReadsAll h us (k.map ofKey) [] := by
  induction x with
  | nil => exact .nil
  | @cons k0 v ks vs h1 _ ih =>
    rcases keyIs_shape h1 with ⟨i, t, rfl, rfl⟩ | ⟨y, t, rfl, rfl⟩
    · exact .cons (as := []) (.int i t) ih
    · exact .cons (as := []) (.str y t) ih
theorem reads_tup {P : Program} {w : World} {h : Heap} {k : MT} {b : Addr} (x : TAt P w h k b) : Reads h (.ref b) (ofTup k) [] := by
  obtain ⟨o, items, n, ho, hc, hd, hi⟩ := x
  exact .tuple ho hc hd (reads_items hi)

/-- which items are numbers -/
def shape (k : MT) : List Bool := k.map fun x => match x with | .inl _ => true | .inr _ => false
theorem alike_shape : ∀ {a b : MT}, shape a = shape b → alikeAll (a.map ofKey) (b.map ofKey) = true
  | [], [], _ => by simp [alikeAll]
  | [], _ :: _, e => by cases e
  | _ :: _, [], e => by cases e
  | x :: a, y :: b, e => by
    unfold shape at e
    rw [List.map_cons, List.map_cons] at e
    obtain ⟨e1, e2⟩ := List.cons.inj e
    rw [List.map_cons, List.map_cons, alikeAll, alike_shape (a := a) (b := b) e2]
    cases x with
    | inl i =>
      cases y with
      | inl j => rfl
      | inr t => cases e1
    | inr t =>
      cases y with
      | inl j => cases e1
      | inr u => rfl
theorem len_shape {a b : MT} (e : shape a = shape b) : a.length = b.length := by
  have z := congrArg List.length e
  unfold shape at z
  rw [List.length_map, List.length_map] at z
  exact z
theorem rise_of {L : List (Addr × MT)} {sh : List Bool} (all : ∀ p ∈ L, shape p.2 = sh) (nd : (L.map (·.2)).Nodup) (pw : L.Pairwise fun p q => dataLt (ofTup q.2) (ofTup p.2) = false) : Rise (L.map (·.2)) := by
  refine List.pairwise_map.mpr ?_
  have nd' : L.Pairwise fun p q => p.2 ≠ q.2 := List.pairwise_map.mp nd
  refine (List.Pairwise.and nd' pw).imp_of_mem fun {p q} hp hq ⟨ne, le⟩ => ?_
  cases e : klt p.2 q.2 with
  | true => rfl
  | false =>
    have s : shape p.2 = shape q.2 := (all p hp).trans (all q hq).symm
    have u : lexLt itemOrd (keyToksAll (p.2.map ofKey)) (keyToksAll (q.2.map ofKey)) = false := (dataLt_tuple _ _).symm.trans e
    have v : lexLt itemOrd (keyToksAll (q.2.map ofKey)) (keyToksAll (p.2.map ofKey)) = false := (dataLt_tuple _ _).symm.trans le
    exact absurd (rows_same (len_shape s) (alike_shape s) u v) ne

def rSetM (K : PySem.W.Frag) (P : Program) (w : World) : List V → Hp → VK → Prop := fun xs H Q => ∃ (a : Addr) (ks : List (Addr × MT)), xs = [V.ref a] ∧
  (SqL K H a (ks.map fun p => V.ref p.1) ∨ SqT K H a (ks.map fun p => V.ref p.1)) ∧ (∀ p ∈ ks, SqT K H p.1 (p.2.map kV)) ∧ ks.length < 64 ∧
  ∀ (S : Addr) (L : List (Addr × MT)), H S = none → (∀ p ∈ L, p ∈ ks) → (∀ p ∈ ks, p.2 ∈ L.map (·.2)) → Q (.ref S) (upd H S (SetMO P w S L))
def rSortedM (K : PySem.W.Frag) (P : Program) (w : World) : List V → Hp → VK → Prop := fun xs H Q => ∃ (a : Addr) (L : List (Addr × MT)) (sh : List Bool), xs = [V.ref a] ∧ H a = some (SetMO P w a L) ∧
  (∀ p ∈ L, SqT K H p.1 (p.2.map kV)) ∧ sh ≠ [] ∧ (∀ p ∈ L, shape p.2 = sh) ∧
  ∀ (M : List (Addr × MT)) (q : Addr), M.Perm L → Rise (M.map (·.2)) → H q = none → Q (.ref q) (upd H q (.lst (M.map fun p => V.ref p.1)))

section
variable {X : Cx} {pins : List (Addr × Obj)} {σ : L2.St} {H : Hp} {s : Shared}
theorem tat_of (I : Inv X pins σ H s) {b : Addr} {k : MT} (h : SqT X.K H b (k.map kV)) : TAt X.prog X.w s.heap k b := by
  obtain ⟨its, r, ⟨o, ho, hc, n, hd⟩, _⟩ := I.tuple h
  exact ⟨o, its.toArray, n, ho, hc, hd, by simpa using items_are r⟩

/-- what has come of the first i tuples -/
structure Come (ks : List (Addr × MT)) (i : Nat) (L : List (Addr × MT)) : Prop where
  inn : ∀ p ∈ L, p ∈ ks
  all : ∀ p ∈ ks.take i, p.2 ∈ L.map (·.2)
  low : L.length ≤ i
theorem Come.next {ks L : List (Addr × MT)} {i : Nat} {p : Addr × MT} (c : Come ks i L) (e : ks[i]? = some p) : Come ks (i + 1) (oneMore L p.1 p.2) := by
  have tk : ks.take (i + 1) = ks.take i ++ [p] := by rw [List.take_add_one, e] <;> rfl
  unfold oneMore
  split
  · rename_i old
    refine ⟨c.inn, fun q hq => ?_, Nat.le_succ_of_le c.low⟩
    rw [tk] at hq
    rcases List.mem_append.mp hq with h | h
    · exact c.all q h
    · rw [List.mem_singleton.mp h]; exact old
  · refine ⟨fun q hq => ?_, fun q hq => ?_, Nat.succ_le_succ c.low⟩
    · rcases List.mem_cons.mp hq with rfl | h
      · exact List.mem_of_getElem? e
      · exact c.inn q h
    · rw [tk] at hq
      rw [List.map_cons]
      rcases List.mem_append.mp hq with h | h
      · exact List.mem_cons_of_mem _ (c.all q h)
      · rw [List.mem_singleton.mp h]; exact List.mem_cons_self

theorem cr_setM (hc : X.calm = true) (hu : X.A.units + 64 < cLine) : CallR X (.type "set") (rSetM X.K X.prog X.w) := by
  intro pins s σ H xs us Q I r h
  obtain ⟨a, ks, rfl, ha, hk, few, q⟩ := h
  rw [Vals.ref1 r]
  have seq : ∃ items : Array Value, (s.heap.IsList a items ∨ s.heap.IsTuple a items) ∧ items.toList = ks.map fun p => Value.ref p.1 := by
    rcases ha with ha | ha
    · obtain ⟨its, rv, pl, _⟩ := I.list ha
      exact ⟨its.toArray, .inl pl.isList, by simpa using refs_are rv⟩
    · obtain ⟨its, rv, ht, _⟩ := I.tuple ha
      exact ⟨its.toArray, .inr ht, by simpa using refs_are rv⟩
  obtain ⟨items, at_, its⟩ := seq
  have size : items.size = ks.length := by
    have e := congrArg List.length its
    rw [List.length_map, Array.length_toList] at e
    exact e
  have tup : ∀ p ∈ ks, TAt X.prog X.w s.heap p.2 p.1 := fun p hp => tat_of I (hk p hp)
  have free : H s.heap.objs.size = none := I.hok.fresh (Nat.le_refl _)
  refine set_seq at_ (I.ok.hd hc) (fun i h' => (∀ b o, s.heap.get? b = some o → h'.get? b = some o) ∧ ∃ L, SetM X.prog X.w h' s.heap.objs.size L ∧ Come ks i L) ?_ ?_ ?_ ?_
  · intro h' old made
    exact ⟨old, [], ⟨⟨_, _, _, held_new made, List.Perm.nil⟩, List.nodup_nil, fun p hp => absurd hp (by simp)⟩, ⟨fun p hp => absurd hp (by simp), fun p hp => absurd hp (by simp), Nat.le_refl 0⟩⟩
  · rintro i h1 h2 ⟨old, L, R, c⟩ k
    have old2 : ∀ b o, s.heap.get? b = some o → h2.get? b = some o := fun b o e => k b o (Nat.le_of_lt (Heap.lt_size e)) (old b o e)
    obtain ⟨es, ep, t, Hd, pm⟩ := R.held
    exact ⟨old2, L, ⟨⟨es, ep, t, Hd.stays fun o e => k _ o (Nat.le_refl _) e, pm⟩, R.once, fun p hp => tat_kept (tup p (c.inn p hp)) old2⟩, c⟩
  · rintro A' i v s1 E' Q' le ev ⟨old, L, R, c⟩ _ k
    have e1 : (ks.map fun p => Value.ref p.1)[i]? = some v := by rw [← its, Array.getElem?_toList]; exact ev
    rw [List.getElem?_map] at e1
    obtain ⟨p, hp, rfl⟩ := Option.map_eq_some_iff.mp e1
    have lt : i < ks.length := (List.getElem?_eq_some_iff.mp hp).1
    have hx : TAt X.prog X.w s1.heap p.2 p.1 := tat_kept (tup p (List.mem_of_getElem? hp)) old
    have room : A'.units < cLine := by omega
    unfold setAdd
    refine wpAny_holding (wpAny_bind (wpAny_pyHash_tuple room hx ?_))
    refine add_tup (s := { s1 with toks := s1.toks + (p.2.length + 1) }) R hx room (by have := c.low; omega) fun b h' sb R' => ?_
    refine k b h' _ (Nat.le_add_right _ _) sb ⟨fun c o e => ?_, _, R', c.next hp⟩
    have ne : c ≠ s.heap.objs.size := Nat.ne_of_lt (Heap.lt_size e)
    exact (sb.2 c ne).trans (old c o e)
  · rintro h' tk ⟨_, L, R, c⟩ old
    refine ⟨.ref _, upd H s.heap.objs.size (SetMO X.prog X.w s.heap.objs.size L), I.laid (t' := tk) old (Nat.le_refl _) (ok_setMO ⟨R.held, R.once⟩), rfl, q _ L free c.inn fun p hp => c.all p ?_⟩
    rw [size, List.take_length]
    exact hp

theorem cr_sortedM (hc : X.calm = true) (hu : X.A.units + 64 < cLine) : CallR X (.builtin "sorted") (rSortedM X.K X.prog X.w) := by
  intro pins s σ H xs us Q I r h
  obtain ⟨a, L, sh, rfl, ha, hk, hsh, all, q⟩ := h
  obtain ⟨⟨es, ep, t, Hd, pm⟩, nd⟩ : SetM0 X.prog X.w s.heap a L := (I.hok a _ ha).1
  rw [Vals.ref1 r]
  have at_ : SetAt s.heap a es ep t := by
    obtain ⟨o, ho, ex, hd⟩ := Hd.obj
    exact ⟨o, ho, ex.1, hd⟩
  have tup : ∀ p ∈ L, TAt X.prog X.w s.heap p.2 p.1 := fun p hp => tat_of I (hk p hp)
  have vals : (es.toList.map (·.2)).Perm (L.map fun p => Value.ref p.1) := by
    have z := pm.map (·.2)
    rw [List.map_map] at z
    exact z
  obtain ⟨L', each, pL⟩ := each_perm vals (each_refs L)
  have each2 : EachIs (fun v (p : Addr × MT) => v = .ref p.1 ∧ p ∈ L) (es.toList.map (·.2)) L' := (each_mem each).mono fun v p ⟨e, m⟩ => ⟨e, pL.mem_iff.mp m⟩
  refine sort_held (enc := fun p : Addr × MT => ofTup p.2) (R := fun v (p : Addr × MT) => v = .ref p.1 ∧ p ∈ L) (bs := L') at_ Hd.fits (Nat.lt_trans Hd.few (by decide)) Hd.tab.ris Hd.order (I.ok.hd hc) each2 ?_ ?_ ?_ ?_ ?_
  · rintro v p h' old ⟨rfl, hp⟩
    exact reads_tup (tat_kept (tup p hp) old)
  · intro p hp p' hp'
    have e : shape p.2 = shape p'.2 := (all p (pL.mem_iff.mp hp)).trans (all p' (pL.mem_iff.mp hp')).symm
    show alikeAll _ _ = true
    exact alike_shape e
  · intro ds pd
    refine .inl fun d hd => ?_
    obtain ⟨p, hp, rfl⟩ := List.mem_map.mp hd
    have e := all p (pL.mem_iff.mp (pd.mem_iff.mp hp))
    cases hkk : p.2 with
    | nil => rw [hkk] at e; exact absurd e.symm hsh
    | cons x k => exact ⟨ofKey x, k.map ofKey, rfl⟩
  · intro p hp
    have e : (ofTup p.2).depth = 1 := by
      unfold ofTup
      rw [PyData.depth, depth_ofKey]
    rw [e]
    omega
  · intro s' p out c M old g o big made eM pM pw
    have free : H p = none := I.hok.fresh big
    have pML : M.Perm L := pM.trans pL
    have lenM : (M.map fun p => V.ref p.1).length ≤ sizeLine := by
      rw [List.length_map, pML.length_eq, ← size_of pm]
      exact sizes Hd.few
    have vM : Vals (M.map fun p => V.ref p.1) out.toList := vals_refs (eM.mono fun v p e => e.1)
    have J : Inv X pins σ (upd H p (.lst (M.map fun p => V.ref p.1))) s' := I.call' (ch := []) o (Un.laid old big free) (I.hok.laid old big ⟨lenM, out.toList, c, vM, by simpa [seqObj] using made⟩) (by rw [g]; exact I.bare) (fun _ z => nomatch z)
    exact ⟨.ref p, _, J, rfl, q M p pML (rise_of (fun p hp => all p (pML.mem_iff.mp hp)) ((pML.map (·.2)).nodup_iff.mpr nd) pw) free⟩
end
end MX
end
section
/-! Sets of numbers and words, up to the bound of scans. -/
namespace MX
open PySem PySem.Spec PyProof.Rows L2 PySem.W

/-- a set that is gone through by scans, and walked in some order -/
structure Scan (w : World) (h : Heap) (a : Addr) (es : Array (Int × Value)) (ep : Nat) (t : SetTable) : Prop where
  obj : ∃ o, h.get? a = some o ∧ o.ExactSet ∧ o.data = .set es ep t
  fits : t.fits es.size = true
  ris : Ris t.place.toList
  order : w.params.followText "set-order" = true ∨ t.led = true
  low : es.size < scanBound
theorem Scan.stays {w : World} {h h' : Heap} {a : Addr} {es : Array (Int × Value)} {ep : Nat} {t : SetTable} (R : Scan w h a es ep t) (k : ∀ o, h.get? a = some o → h'.get? a = some o) : Scan w h' a es ep t := by
  obtain ⟨o, ho, more⟩ := R.obj
  exact { R with obj := ⟨o, k o ho, more⟩ }
/-- a number's or word's key -/
def keyAt : Value → Key
  | .int i _ => .inl i
  | .str x _ => .inr x
  | _ => .inl 0
theorem keyAt_of {k : Key} {v : Value} (h : keyIs k v = true) : keyAt v = k := by
  rcases keyIs_shape h with ⟨i, t, rfl, rfl⟩ | ⟨x, t, rfl, rfl⟩ <;> rfl
theorem scan_leaf {k : Key} {v : Value} (h : keyIs k v = true) : v.scannable = true := by
  rcases keyIs_shape h with ⟨i, t, rfl, rfl⟩ | ⟨x, t, rfl, rfl⟩ <;> rfl
abbrev keysIn (es : Array (Int × Value)) : List Key := es.toList.map fun e => keyAt e.2

/-- at a stands a set of so many keys -/
structure SetQ (P : Program) (w : World) (h : Heap) (a : Addr) (S : Key → Bool) (n : Nat) : Prop where
  scan : ∃ es ep t, Scan w h a es ep t ∧ ElemsOf (mixKind P w) es.toList ∧ (keysIn es).Nodup ∧ (∀ k, S k = true ↔ k ∈ keysIn es) ∧ es.size = n
theorem SetQ.stays {P : Program} {w : World} {h h' : Heap} {a : Addr} {S : Key → Bool} {n : Nat} (R : SetQ P w h a S n) (k : ∀ o, h.get? a = some o → h'.get? a = some o) : SetQ P w h' a S n := by
  obtain ⟨es, ep, t, R, more⟩ := R.scan
  exact ⟨es, ep, t, R.stays k, more⟩
theorem SetQ.some_obj {P : Program} {w : World} {h : Heap} {a : Addr} {S : Key → Bool} {n : Nat} (R : SetQ P w h a S n) : ∃ o, h.get? a = some o := by
  obtain ⟨es, ep, t, R, _⟩ := R.scan
  obtain ⟨o, ho, _⟩ := R.obj
  exact ⟨o, ho⟩
theorem here_key {P : Program} {w : World} {es : Array (Int × Value)} (el : ElemsOf (mixKind P w) es.toList) (k : Key) : k ∈ keysIn es ↔ ∃ e ∈ es.toList, (mixKind P w).is k e.2 = true := by
  rw [List.mem_map]
  constructor
  · rintro ⟨e, he, rfl⟩
    obtain ⟨⟨k', hk', _⟩, _⟩ := el e he
    exact ⟨e, he, by rw [keyAt_of hk']; exact hk'⟩
  · rintro ⟨e, he, hk⟩
    exact ⟨e, he, keyAt_of hk⟩
/-- membership is the library's -/
theorem SetQ.setOf {P : Program} {w : World} {h : Heap} {a : Addr} {S : Key → Bool} {n : Nat} (R : SetQ P w h a S n) : h.SetOf (mixKind P w) a S n := by
  obtain ⟨es, ep, t, R, el, _, mem, sz⟩ := R.scan
  obtain ⟨o, ho, ex, hd⟩ := R.obj
  exact ⟨o, es, ep, t, ho, ex, hd, el, fun k => (mem k).trans (here_key el k), R.low, R.fits, sz⟩
theorem setQ_new {P : Program} {w : World} {h : Heap} {a : Addr} (ho : h.get? a = some (newbie w)) : SetQ P w h a (fun _ => false) 0 := by
  have H := held_new ho
  exact ⟨#[], 0, _, ⟨H.obj, H.fits, H.tab.ris, H.order, by decide⟩, fun e he => by simp at he, List.nodup_nil, fun k => by simp [keysIn], rfl⟩
theorem SetQ.same {P : Program} {w : World} {h : Heap} {a : Addr} {S S' : Key → Bool} {n n' : Nat} (R : SetQ P w h a S n) (e : ∀ k, S' k = S k) (en : n' = n) : SetQ P w h a S' n' := by
  obtain ⟨es, ep, t, K, el, nd, mem, sz⟩ := R.scan
  exact ⟨es, ep, t, K, el, nd, fun k => by rw [e k]; exact mem k, sz.trans en.symm⟩

section
variable {P : Program} {w : World} {A : Around} {E : Value → Shared → Prop} {s : Shared} {a : Addr}

/-- one more is added -/
theorem add_key {S : Key → Bool} {n : Nat} {k : Key} {x : Value} {Q : Bool → Shared → Prop} (R : SetQ P w s.heap a S n) (hk : keyIs k x = true) (room : n + 1 < scanBound)
    (q : ∀ b h', Heap.SameBut a s.heap h' → SetQ P w h' a (fun j => S j || decide (j = k)) (if S k = true then n else n + 1) → Q b { s with heap := h' }) :
    wpAny (model P w) A (setAddHashed a x ((mixKind P w).hash k)) Q E s := by
  obtain ⟨es, ep, t, K, el, nd, mem, sz⟩ := R.scan
  obtain ⟨o, ho, ex, hd⟩ := K.obj
  have hx := scan_leaf hk
  have hk' : (mixKind P w).is k x = true := hk
  unfold setAddHashed
  refine wpAny_holding ?_
  rw [show (100000 : Nat) = 99999 + 1 from rfl, setAddHashedIn_succ]
  refine wpAny_bind (wpAny_setState_of ho hd K.fits ?_)
  dsimp only
  refine wp_if_pos (byScan_of hx K.low el) ?_
  unfold setAddByScan
  refine wpAny_bind (wpAny_bind (wpAny_rule (wpAny_bind (wpAny_setScan_of hk' ho hd K.fits el ?_))))
  cases hf : List.findIdx? (fun e => (mixKind P w).is k e.2) es.toList with
  | some j =>
    obtain ⟨hj, yes, _⟩ := List.findIdx?_eq_some_iff_getElem.mp hf
    have inS : S k = true := (mem k).mpr ((here_key el k).mpr ⟨_, List.getElem_mem hj, yes⟩)
    refine wpAny_pure (wpAny_pure (q false s.heap (Heap.SameBut.refl a s.heap) (R.same (fun i => ?_) (if_pos inS))))
    rcases Classical.em (i = k) with e | e
    · rw [e, inS]; rfl
    · rw [decide_eq_false e, Bool.or_false]
  | none =>
    have out : S k = false := by
      cases c : S k with
      | false => rfl
      | true =>
        obtain ⟨e, he, yes⟩ := (here_key el k).mp ((mem k).mp c)
        have z := List.findIdx?_eq_none_iff.mp hf e he
        rw [yes] at z
        cases z
    have notin : k ∉ keysIn es := fun z => by rw [(mem k).mpr z] at out; cases out
    have pm := layNew_perm t es ((mixKind P w).hash k) x
    have fit := layNew_fits t es ((mixKind P w).hash k) x
    have ris := layNew_ris t es ((mixKind P w).hash k) x K.ris
    have led := layNew_led t es ((mixKind P w).hash k) x
    generalize layNew t es ((mixKind P w).hash k) x = new at pm fit ris led
    obtain ⟨es1, t1, dummy, gave⟩ := new
    dsimp only at pm fit ris led ⊢
    rw [Array.toList_push] at pm
    have ord : w.params.followText "set-order" = true ∨ t1.led = true := K.order.imp id fun z => led.trans z
    have sz1 : es1.size = n + 1 := by
      have z := pm.length_eq
      rw [List.length_append, Array.length_toList, Array.length_toList, sz] at z
      exact z
    have done : ∀ {h' : Heap} {es2 : Array (Int × Value)} {ep2 : Nat} {t2 : SetTable}, Heap.SameBut a s.heap h' → (∃ o, h'.get? a = some o ∧ o.ExactSet ∧ o.data = .set es2 ep2 t2) → t2.fits es2.size = true → Ris t2.place.toList →
        (w.params.followText "set-order" = true ∨ t2.led = true) → es2.toList.Perm es1.toList → Q true { s with heap := h' } := fun {h' es2 ep2 t2} sb at2 fit2 ris2 ord2 p2 => by
      have p3 : es2.toList.Perm (es.toList ++ [((mixKind P w).hash k, x)]) := p2.trans pm
      have sz2 : es2.size = n + 1 := by
        have z := p2.length_eq
        rw [Array.length_toList, Array.length_toList, sz1] at z
        exact z
      have keys : (keysIn es2).Perm (keysIn es ++ [k]) := by
        have z := p3.map fun e => keyAt e.2
        rw [List.map_append, List.map_cons, List.map_nil] at z
        rw [show keyAt x = k from keyAt_of hk] at z
        exact z
      refine q true h' sb ⟨es2, ep2, t2, ⟨at2, fit2, ris2, ord2, by rw [sz2]; exact room⟩, ElemsOf.perm (el.push hk' hx) p3, keys.nodup_iff.mpr ?_, fun j => ?_, by rw [if_neg (by rw [out]; decide)]; exact sz2⟩
      · exact List.nodup_append.mpr ⟨nd, by simp, fun i hi j hj e => notin (by rw [← List.mem_singleton.mp hj, ← e]; exact hi)⟩
      · rw [keys.mem_iff, List.mem_append, List.mem_singleton, Bool.or_eq_true, decide_eq_true_iff, mem j]
    have stay1 : ∀ t2 : SetTable, Heap.SameBut a s.heap (s.heap.update a (Obj.putSet es1 t2)) := fun t2 => Heap.SameBut.update s.heap a _
    have obj1 : ∀ t2 : SetTable, (s.heap.update a (Obj.putSet es1 t2)).get? a = some { o with data := .set es1 (ep + 1) t2 } := fun t2 => by
      have z := Heap.get?_update_self (Obj.putSet es1 t2) ho (by rw [putSet_of es1 t2 hd] <;> rfl)
      rw [putSet_of es1 t2 hd] at z
      exact z
    have sizes1 : es1.size ≤ sizeLine := fits_of_scanBound (by rw [sz1]; exact room)
    -- the rest behind the new table
    have rest : ∀ (t2 : SetTable) (g : Bool → Sem Unit), (∀ b (s1 : Shared) (Q' : Unit → Shared → Prop), Q' () s1 → wpAny (model P w) A (g b) Q' E s1) → t2.fits es1.size = true → Ris t2.place.toList → (w.params.followText "set-order" = true ∨ t2.led = true) →
        wpAny (model P w) A (do
          storeSet a es1 t2
          if (!dummy && t2.tooFull) = true then do
            g (relayAll t2 es1 (SetTable.grown es1.size)).2.2
            storeSet a (relayAll t2 es1 (SetTable.grown es1.size)).1 (relayAll t2 es1 (SetTable.grown es1.size)).2.1
            pure (some true)
          else pure (some true)) (fun r s2 => r = some true ∧ Q true s2) E s := fun t2 g hg fit2 ris2 ord2 => by
      refine wpAny_bind (wpAny_storeSet_of ho hd ?_ sizes1)
      split
      · have pm2 := relayAll_perm t2 es1 (SetTable.grown es1.size)
        have fit3 := relayAll_fits t2 es1 (SetTable.grown es1.size)
        have ris3 := relayAll_ris t2 es1 (SetTable.grown es1.size)
        have led3 := relayAll_led t2 es1 (SetTable.grown es1.size)
        generalize relayAll t2 es1 (SetTable.grown es1.size) = new2 at pm2 fit3 ris3 led3
        obtain ⟨es2, t3, gave2⟩ := new2
        dsimp only at pm2 fit3 ris3 led3 ⊢
        have sz2 : es2.size = es1.size := by
          have z := pm2.length_eq
          rw [Array.length_toList, Array.length_toList] at z
          exact z
        refine wpAny_bind (hg _ _ _ ?_)
        refine wpAny_bind (wpAny_storeSet_of (obj1 t2) rfl ?_ (by rw [sz2]; exact sizes1))
        refine wpAny_pure ⟨rfl, done ((stay1 t2).trans (Heap.SameBut.update _ a _)) ⟨{ o with data := .set es2 (ep + 1 + 1) t3 }, ?_, ex, rfl⟩ fit3 ris3 (ord2.imp id fun z => led3.trans z) pm2⟩
        have z := Heap.get?_update_self (Obj.putSet es2 t3) (obj1 t2) (by rw [putSet_of es2 t3 rfl] <;> rfl)
        rw [putSet_of es2 t3 rfl] at z
        exact z
      · exact wpAny_pure ⟨rfl, done (stay1 t2) ⟨_, obj1 t2, ex, rfl⟩ fit2 ris2 ord2 (List.Perm.refl _)⟩
    have ends : ∀ {m : Sem (Option Bool)}, wpAny (model P w) A m (fun r s2 => r = some true ∧ Q true s2) E s → wpAny (model P w) A m (fun r s2 => wpAny (model P w) A (match r with | some added => pure added | none => setAddHashedIn a x ((mixKind P w).hash k) 99999) Q E s2) E s := fun {m} h => wpAny_mono h (fun r s2 ⟨e, z⟩ => by rw [e]; exact wpAny_pure z) fun _ _ z => z
    have ways : ∀ (b : Bool) (s1 : Shared) (Q' : Unit → Shared → Prop), Q' () s1 → wpAny (model P w) A (match b with | true => rule "set.scan.the-table-gave-way" | false => pure ()) Q' E s1 := fun b s1 Q' z => by
      cases b with
      | true => exact wpAny_rule z
      | false => exact wpAny_pure z
    refine wpAny_bind (ways _ _ _ ?_)
    by_cases pl : t1.plain = true
    · refine wp_if_pos pl ?_
      rw [hashByValue_scannable 8 hx]
      refine wpAny_bind (wpAny_pure ?_)
      have three : ∀ y : Bool, (if y = true then t1 else { t1 with plain := false }).fits es1.size = true ∧ Ris (if y = true then t1 else { t1 with plain := false }).place.toList ∧ (w.params.followText "set-order" = true ∨ (if y = true then t1 else { t1 with plain := false }).led = true) := fun y => by
        cases y with
        | true => exact ⟨fit, ris, ord⟩
        | false => exact ⟨SetTable.fits_plain_off fit, ris, ord⟩
      obtain ⟨u1, u2, u3⟩ := three (plainKind x)
      exact ends (rest _ _ ways u1 u2 u3)
    · refine wp_if_neg pl (wpAny_bind (wpAny_pure ?_))
      exact ends (rest t1 _ ways fit ris ord)
end
end MX
end
section
/-! set(..), sorted(..), in and add read: numbers and words. -/
namespace MX
open PySem PySem.Spec PyProof.Rows L2 PySem.W

def SetQO (P : Program) (w : World) (a : Addr) (S : Key → Bool) (n : Nat) : HO := .ext fun h => SetQ P w h a S n
theorem ok_setQO {P : Program} {w : World} {H : Hp} {h : Heap} {a : Addr} {S : Key → Bool} {n : Nat} (R : SetQ P w h a S n) : ObjOk P w H h a (SetQO P w a S n) := ⟨R, R.some_obj, fun _ _ p k => SetQ.stays p k⟩
/-- whether a key is a number -/
def isNum : Key → Bool
  | .inl _ => true
  | .inr _ => false
def rSetQ (K : PySem.W.Frag) (P : Program) (w : World) : List V → Hp → VK → Prop := fun xs H Q => ∃ (a : Addr) (ks : List Key), xs = [V.ref a] ∧ (SqL K H a (ks.map kV) ∨ SqT K H a (ks.map kV)) ∧ ks.length < 4096 ∧
  ∀ (p : Addr) (S : Key → Bool) (n : Nat), H p = none → (∀ k, S k = true ↔ k ∈ ks) → n ≤ ks.length → Q (.ref p) (upd H p (SetQO P w p S n))
def rSortedQ (P : Program) (w : World) : List V → Hp → VK → Prop := fun xs H Q => ∃ (a : Addr) (S : Key → Bool) (n : Nat) (b : Bool), xs = [V.ref a] ∧ H a = some (SetQO P w a S n) ∧ (∀ k, S k = true → isNum k = b) ∧
  ∀ (M : List Key) (q : Addr), Up M → (∀ k, k ∈ M ↔ S k = true) → M.length = n → H q = none → Q (.ref q) (upd H q (.lst (M.map kV)))
def rInQ (P : Program) (w : World) (neg : Bool) : V → V → Hp → VK → Prop := fun x y H Q => ∃ (k : Key) (a : Addr) (S : Key → Bool) (n : Nat), x = kV k ∧ y = V.ref a ∧ H a = some (SetQO P w a S n) ∧ Q (.bl (if neg = true then !S k else S k)) H
def rAddQ (P : Program) (w : World) : V → List V → Hp → VK → Prop := fun x xs H Q => ∃ (a : Addr) (k : Key) (S : Key → Bool) (n : Nat), x = V.ref a ∧ xs = [kV k] ∧ H a = some (SetQO P w a S n) ∧ n + 1 < scanBound ∧
  Q .non (upd H a (SetQO P w a (fun j => S j || decide (j = k)) (if S k = true then n else n + 1)))

theorem each_keys {P : Program} {w : World} : ∀ {l : List (Int × Value)}, ElemsOf (mixKind P w) l → EachIs (fun v k => keyIs k v = true) (l.map (·.2)) (l.map fun e => keyAt e.2)
  | [], _ => .nil
  | e :: l, h => by
    obtain ⟨⟨k, hk, _⟩, _⟩ := h e List.mem_cons_self
    have z : keyIs (keyAt e.2) e.2 = true := by
      have y : keyIs k e.2 = true := hk
      rw [keyAt_of y]
      exact y
    exact .cons z (each_keys fun x hx => h x (List.mem_cons_of_mem _ hx))
theorem is_key {k : Key} {v : Value} (r : RelV (kV k) v) : keyIs k v = true := by
  cases k with
  | inl i => obtain ⟨t, rfl⟩ := r; exact keyIs_int i t
  | inr x => obtain ⟨t, rfl⟩ := r; exact keyIs_str x t
theorem vals_keys : ∀ {ks : List Key} {us : List Value}, EachIs (fun v k => keyIs k v = true) us ks → Vals (ks.map kV) us
  | [], _, .nil => .nil
  | k :: ks, _, .cons e t => by
    refine .cons ?_ (vals_keys t)
    rcases keyIs_shape e with ⟨i, t, rfl, rfl⟩ | ⟨x, t, rfl, rfl⟩
    · exact ⟨t, rfl⟩
    · exact ⟨t, rfl⟩
theorem each_at {ks : List Key} {us : List Value} (v : Vals (ks.map kV) us) : EachIs (fun v k => keyIs k v = true) us ks := by
  induction ks generalizing us with
  | nil => cases v; exact .nil
  | cons k ks ih =>
    cases v with
    | cons r t => exact .cons (is_key r) (ih t)
theorem each_get {R : Value → Key → Prop} : ∀ {us : List Value} {ks : List Key}, EachIs R us ks → ∀ {i : Nat} {v : Value}, us[i]? = some v → ∃ k, ks[i]? = some k ∧ R v k
  | _, _, .nil, _, _, e => by simp at e
  | _, _, .cons r t, 0, _, e => by cases e; exact ⟨_, rfl, r⟩
  | _, _, .cons r t, i + 1, _, e => each_get t e
theorem alike_num {a b : Key} (e : isNum a = isNum b) : alike (ofKey a) (ofKey b) = true := by
  cases a with
  | inl i =>
    cases b with
    | inl j => rfl
    | inr y => cases e
  | inr x =>
    cases b with
    | inl j => cases e
    | inr y => rfl
theorem up_of {l : List Key} {b : Bool} (all : ∀ k ∈ l, isNum k = b) (nd : l.Nodup) (pw : l.Pairwise fun k k' => dataLt (ofKey k') (ofKey k) = false) : Up l := by
  refine (List.Pairwise.and nd pw).imp_of_mem fun {k k'} hk hk' ⟨ne, le⟩ => ?_
  cases e : kl k k' with
  | true => rfl
  | false => exact absurd (key_same (alike_num ((all k hk).trans (all k' hk').symm)) e le) ne

section
variable {X : Cx} {pins : List (Addr × Obj)} {σ : L2.St} {H : Hp} {s : Shared}
theorem get_setQ (I : Inv X pins σ H s) {a : Addr} {S : Key → Bool} {n : Nat} (e : H a = some (SetQO X.prog X.w a S n)) : SetQ X.prog X.w s.heap a S n := (I.hok a _ e).1
theorem cr_setQ (hc : X.calm = true) (hu : X.A.units + 64 < cLine) : CallR X (.type "set") (rSetQ X.K X.prog X.w) := by
  intro pins s σ H xs us Q I r h
  obtain ⟨a, ks, rfl, ha, few, q⟩ := h
  rw [Vals.ref1 r]
  have seq : ∃ items : Array Value, (s.heap.IsList a items ∨ s.heap.IsTuple a items) ∧ EachIs (fun v k => keyIs k v = true) items.toList ks := by
    rcases ha with ha | ha
    · obtain ⟨its, rv, pl, _⟩ := I.list ha
      exact ⟨its.toArray, .inl pl.isList, by simpa using each_at rv⟩
    · obtain ⟨its, rv, ht, _⟩ := I.tuple ha
      exact ⟨its.toArray, .inr ht, by simpa using each_at rv⟩
  obtain ⟨items, at_, each⟩ := seq
  have size : items.size = ks.length := by rw [← Array.length_toList, each.length]
  have free : H s.heap.objs.size = none := I.hok.fresh (Nat.le_refl _)
  refine set_seq at_ (I.ok.hd hc) (fun i h' => ∃ S n, SetQ X.prog X.w h' s.heap.objs.size S n ∧ (∀ k, S k = true ↔ k ∈ ks.take i) ∧ n ≤ i) ?_ ?_ ?_ ?_
  · intro h' old made
    exact ⟨_, 0, setQ_new made, fun k => by simp, Nat.le_refl 0⟩
  · rintro i h1 h2 ⟨S, n, R, mem, le⟩ k
    exact ⟨S, n, R.stays fun o e => k _ o (Nat.le_refl _) e, mem, le⟩
  · rintro A' i v s1 E' Q' low ev ⟨S, n, R, mem, le⟩ _ k
    obtain ⟨key, hkey, is⟩ := each_get each (i := i) (v := v) (by rw [Array.getElem?_toList]; exact ev)
    have lt : i < ks.length := (List.getElem?_eq_some_iff.mp hkey).1
    unfold setAdd
    refine wpAny_holding (wpAny_bind ((mixKind X.prog X.w).pyHash is ?_))
    refine add_key (s := { s1 with toks := s1.toks + 1 }) R is (show n + 1 < 4096 by omega) fun b h' sb R' => k b h' _ (Nat.le_succ _) sb ⟨_, _, R', fun j => ?_, ?_⟩
    · rw [List.take_add_one, hkey, Bool.or_eq_true, mem j, decide_eq_true_iff]
      simp [List.mem_append]
    · split <;> omega
  · rintro h' tk ⟨S, n, R, mem, le⟩ old
    rw [size] at mem le
    rw [List.take_length] at mem
    exact ⟨.ref _, upd H s.heap.objs.size (SetQO X.prog X.w s.heap.objs.size S n), I.laid (t' := tk) old (Nat.le_refl _) (ok_setQO R), rfl, q _ S n free mem le⟩

theorem cr_sortedQ (hc : X.calm = true) (hu : X.A.units + 64 < cLine) : CallR X (.builtin "sorted") (rSortedQ X.prog X.w) := by
  intro pins s σ H xs us Q I r h
  obtain ⟨a, S, n, b, rfl, ha, all, q⟩ := h
  have R := get_setQ I ha
  obtain ⟨es, ep, t, K, el, nd, mem, sz⟩ := R.scan
  rw [Vals.ref1 r]
  have at_ : SetAt s.heap a es ep t := by
    obtain ⟨o, ho, ex, hd⟩ := K.obj
    exact ⟨o, ho, ex.1, hd⟩
  have num : ∀ k ∈ keysIn es, isNum k = b := fun k hk => all k ((mem k).mpr hk)
  refine sort_held (enc := ofKey) (R := fun v k => keyIs k v = true) (bs := keysIn es) at_ K.fits K.low K.ris K.order (I.ok.hd hc) (each_keys el) ?_ ?_ ?_ ?_ ?_
  · intro v k h' old e
    rcases keyIs_shape e with ⟨i, t, rfl, rfl⟩ | ⟨x, t, rfl, rfl⟩
    · exact .int i t
    · exact .str x t
  · exact fun k hk k' hk' => alike_num ((num k hk).trans (num k' hk').symm)
  · exact fun ds _ => Sortable.others fun k => by cases k <;> exact ⟨by simp [ofKey], by simp [ofKey]⟩
  · intro k hk
    have e : (ofKey k).depth = 0 := by cases k <;> rfl
    rw [e]
    omega
  · intro s' p out c M old g o big made eM pM pw
    have free : H p = none := I.hok.fresh big
    have lenM : M.length = n := by
      rw [pM.length_eq, List.length_map, Array.length_toList]
      exact sz
    have low : (M.map kV).length ≤ sizeLine := by
      rw [List.length_map, lenM, ← sz]
      exact fits_of_scanBound K.low
    have J : Inv X pins σ (upd H p (.lst (M.map kV))) s' := I.call' (ch := []) o (Un.laid old big free) (I.hok.laid old big ⟨low, out.toList, c, vals_keys eM, by simpa [seqObj] using made⟩) (by rw [g]; exact I.bare) (fun _ z => nomatch z)
    exact ⟨.ref p, _, J, rfl, q M p (up_of (fun k hk => num k (pM.mem_iff.mp hk)) (pM.nodup_iff.mpr nd) pw) (fun k => by rw [pM.mem_iff, mem k]) lenM free⟩

theorem op_inQ : OpR X (compareOp .In) (rInQ X.prog X.w false) := by
  intro pins s σ H x y v u Q I rx ry h
  obtain ⟨k, a, S, n, rfl, rfl, ha, q⟩ := h
  have is := is_key rx
  cases ry
  exact wpAny_inSet_of (knd := mixKind X.prog X.w) is (scan_leaf is) (get_setQ I ha).setOf (show EP X pins σ Q _ _ from ⟨.bl (S k), H, I.tok _, rfl, q⟩)
theorem op_notInQ : OpR X (compareOp .NotIn) (rInQ X.prog X.w true) := by
  intro pins s σ H x y v u Q I rx ry h
  obtain ⟨k, a, S, n, rfl, rfl, ha, q⟩ := h
  have is := is_key rx
  cases ry
  exact wpAny_notInSet_of (knd := mixKind X.prog X.w) is (scan_leaf is) (get_setQ I ha).setOf (show EP X pins σ Q _ _ from ⟨.bl (!S k), H, I.tok _, rfl, q⟩)

/-- found.add(k), the call itself -/
theorem call_add {A : Around} {E : Value → Shared → Prop} {a : Addr} {S : Key → Bool} {n : Nat} {k : Key} {x : Value} {Q : Value → Shared → Prop} {P : Program} {w : World} (R : SetQ P w s.heap a S n) (is : keyIs k x = true) (room : n + 1 < scanBound)
    (q : ∀ h', Heap.SameBut a s.heap h' → SetQ P w h' a (fun j => S j || decide (j = k)) (if S k = true then n else n + 1) → Q .none { s with heap := h', toks := s.toks + 1 }) :
    wpAny (model P w) A (call (.builtin "set.add") [.ref a, x]) Q E s := by
  have ty : s.TypeIs (.ref a) "set" := R.setOf.typeIs
  refine wpAny_call_entry F.slot_set_add ty F.entry_set_add ?_ (F.args_set_add_2 (.ref a) x)
  unfold Builtin.«set.add» Builtin.Frozenset.oneOther Builtin.Frozenset.addrOf
  refine wpAny_bind (wpAny_bind (wpAny_pure ?_))
  try dsimp only
  refine wpAny_bind (wpAny_pure (wpAny_pure ?_))
  unfold setAdd
  refine wpAny_bind (wpAny_holding (wpAny_bind ((mixKind P w).pyHash is ?_)))
  refine add_key (s := { s with toks := s.toks + 1 }) R is room fun b h' sb R' => ?_
  exact wpAny_pure ⟨_, rfl, q h' sb R'⟩
theorem wrote (I : Inv X pins σ H s) {a : Addr} {S S' : Key → Bool} {n n' t' : Nat} {h' : Heap} (e : H a = some (SetQO X.prog X.w a S n)) (sb : Heap.SameBut a s.heap h') (R' : SetQ X.prog X.w h' a S' n') :
    Inv X pins σ (upd H a (SetQO X.prog X.w a S' n')) { s with heap := h', toks := t' } :=
  I.write (e := a) (t' := t') (by rw [e]; exact True.intro) (.inl rfl) (fun b u ne hu => (sb.2 b ne).trans hu) R'.some_obj (ok_setQO R')
def tAddQ (P : Program) (w : World) (to : TE) (t : TA) : TE := fun σ H Q => to σ H fun x H1 => (∃ a S n, x = V.ref a ∧ H1 a = some (SetQO P w a S n)) ∧ t σ H1 fun xs H2 => rAddQ P w x xs H2 Q
theorem pe_addQ {o e : Expr} {es : List Expr} {to : TE} {t : TA} {apos cpos : Pos} (ho : PE X o to) (ha : PA X (e :: es) t)
    (plain : attributeBase o "add" X.env (eval o X.env) = eval o X.env := by rfl)
    (few : ((backTo cpos (starEach (e :: es) X.env)).all (fun x => !x.1) && (backToKw cpos (keywordEach [] X.env)).all (fun x => x.1.isSome)
      && decide ((e :: es).length + ([] : List Keyword).length + (if ([] : List Keyword).isEmpty then 0 else 1) < 30)) = true := by rfl)
    (row : (apos.endLine == cpos.line) = true := by rfl) (first : starEach (e :: es) X.env = (false, eval e X.env) :: starEach es X.env := by rfl) (nost : (backTo cpos (starEach es X.env)).any (·.1) = false := by rfl) :
    PE X (.Call (.Attribute o "add" apos) (e :: es) [] cpos) (tAddQ X.prog X.w to t) := by
  constructor
  intro pins s σ H Q I h
  refine wpAny_Call_method_late plain few row rfl ?_
  refine thn (ho.run pins s σ H _ I h) fun v s1 ⟨x, H1, I1, r1, known, q1⟩ => ?_
  obtain ⟨a, S, n, rfl, at_⟩ := known
  obtain rfl : v = Value.ref a := r1
  have lib := (get_setQ I1 at_).setOf
  refine ⟨"set", "set.add", F.plainAttrs_set, F.slot_set_add, F.type_set_add, lib.typeIs, lib.noDict, ?_⟩
  have args := ha.run cpos pins s1 σ H1 _ I1 q1
  rw [first] at args ⊢
  refine Calls.callWith_builtin ?_ (Calls.evalArgs_plain (thn args fun us s2 ⟨vs, H2, I2, r2, q2⟩ => ?_))
  · show (false || List.any (backTo cpos (starEach es X.env)) (·.1)) = false
    rw [nost, Bool.or_false]
  obtain ⟨b, k, S2, n2, eb, rfl, hb, room, q3⟩ := q2
  cases eb
  cases r2 with
  | cons ru rest =>
    cases rest
    refine call_add (get_setQ I2 hb) (is_key ru) room fun h' sb R' => ?_
    exact ⟨.non, upd H2 a (SetQO X.prog X.w a (fun j => S2 j || decide (j = k)) (if S2 k = true then n2 else n2 + 1)), wrote I2 hb sb R', rfl, q3⟩
end
end MX
end
section
/-! Comprehensions that gather something new, whatever it is. -/
namespace MX
open PySem PySem.Spec PyProof.Rows L2 PySem.W

/-- new D: what stands at D at first; body: what a turn does when its tests are true -/
def tGather (new : Addr → HO) (body : Addr → L2.St → Hp → (Hp → Prop) → Prop) (wi : TI) (g : TG) (tt : TT) (vs : List Nat) : TE := fun σ H Q => wi σ H fun J H1 => ∀ D, H1 D = none →
  ∃ W : Nat → Nat → Hp → Prop, (∃ m, W 0 m (upd H1 D (new D))) ∧ ∀ i m H2, W i m H2 → (J.stop i H2 ∧ Q (.ref D) H2) ∨
    (J.go i H2 ∧ ∃ Nx : Hp → Prop, (∀ H', Nx H' → ∃ m', m' < m ∧ W (i + 1) m' H') ∧ ∀ x H', J.yld i H2 x H' → g x (wipe σ vs) H' fun σ2 H3 => wipe σ2 vs = wipe σ vs ∧ tt σ2 H3 fun b H4 => if b = true then body D σ2 H4 Nx else Nx H4)

section
variable {X : Cx}
abbrev nobody : Value → Shared → Prop := fun _ _ => False
/-- one turn of the block's loop: Iv what holds between turns, B the block's context -/
def OneTurn (X B : Cx) (tg : Expr) (ifs : List Expr) (it : Addr) (body : L2.St → Hp → (Hp → Prop) → Prop) (Iv : Nat → Shared → Prop) (stop : Shared → Prop) (n : Nat) (s : Shared) : Prop :=
  wpAny (model X.prog X.w) X.A (pyNext (.ref it)) (fun r s1 => match r with
    | none => stop s1
    | some v => wpAny (model X.prog X.w) X.A (letOwnedTupleGo tg (.ref it) v) (fun _ s2 => wpAny (model X.prog X.w) X.A (assign tg B.env v) (fun _ s3 =>
        wpAny (model X.prog X.w) X.A (forIn ifs true fun c r => if r = true then do let ok ← isTrue c B.env (eval c B.env); pure (ForInStep.yield ok) else pure (ForInStep.yield r)) (fun b s4 =>
          ∃ pl σ H Nx, L2.Inv B pl σ H s4 ∧ (if b = true then body σ H Nx else Nx H) ∧ ∀ s' H', L2.Inv B pl σ H' s' → Nx H' → ∃ m, m < n ∧ Iv m s') nobody s3) nobody s2) nobody s1) nobody s

theorem gather {e tg iter : Expr} {ifs : List Expr} {scope : Scope} {own : List (PySem.Str × Nat)} {pos' : Pos} {mk : Sem Value} {o0 : Obj} {new : Addr → HO} {body : Addr → L2.St → Hp → (Hp → Prop) → Prop} {wi : TI} {g : TG} {tt : TT} {use : Option (Value → Sem Unit)}
    {Qf : Value → Shared → Prop} {pins : List (Addr × Obj)} {s : Shared} {σ : L2.St} {H : Hp} {Q : VK} (hc : X.calm = true) (hN : X.N.Nodup) (I : L2.Inv X pins σ H s) (hi : PI X tg iter wi) (ok : BlkOk X.N X.env.scope scope own) (clauses : clausesOf e = [⟨tg, iter, ifs, 0⟩])
    (hmk : ∀ (s : Shared) (Q : Value → Shared → Prop), Q (.ref s.heap.objs.size) { s with heap := s.heap.push o0 } → wpAny (model X.prog X.w) X.A mk Q X.xe s)
    (hnew : ∀ (s : Shared) (H : Hp), L2.Inv X pins σ H s → ObjOk X.prog X.w (upd H s.heap.objs.size (new s.heap.objs.size)) (s.heap.push o0) s.heap.objs.size (new s.heap.objs.size))
    (hg : ∀ (s : Shared) (H : Hp) (C : Addr) (cl : List (PySem.Str × Addr)) (fp : List Addr), PG (X.blk s H scope (compEnvC scope cl C X.env) fp) tg g) (ht : ∀ (s : Shared) (H : Hp) (C : Addr) (cl : List (PySem.Str × Addr)) (fp : List Addr), PTs (X.blk s H scope (compEnvC scope cl C X.env) fp) ifs tt)
    (loops : ∀ (s3 : Shared) (H3 : Hp) (C : Addr) (cl : List (PySem.Str × Addr)) (fp : List Addr) (it D : Addr) (Iv : Nat → Shared → Prop) (R : Result → Shared → Prop),
      (∀ n s5, Iv n s5 → OneTurn X (X.blk s3 H3 scope (compEnvC scope cl C X.env) fp) tg ifs it (body D) Iv (fun s1 => R (.ok .next) s1) n s5) → ∀ n s4, Iv n s4 → codeAny (model X.prog X.w) X.A (.compLoop e 0 (.ref it) (.ref D) (compEnvC scope cl C X.env)) R s4)
    (starts : ∀ (it acc : Value) (ce : Env) (R : Result → Shared → Prop) (s4 : Shared), codeAny (model X.prog X.w) X.A (.compLoop e 0 it acc ce) R s4 →
      wpAny (model X.prog X.w) X.A (pyIter it) (fun it' s' => codeAny (model X.prog X.w) X.A (.compLoop e 0 it' acc ce) R s') (notedBy (model X.prog X.w) X.A ce fun x s' => R (.error x) s') s4 → codeAny (model X.prog X.w) X.A (.compStart e 0 it acc ce) R s4)
    (hs : ∀ x, foldedSetIterable iter X.env x = pure x) (h : tGather new body wi g tt (own.map (·.2)) σ H Q)
    (out : ∀ D C s' m H', L2.Inv X pins σ H' s' → Q (.ref D) H' → s'.heap.Ns C m → FpOk X pins H' C → compPost (model X.prog X.w) X.A X.xe use Qf (.ref D) C (.ok .next) s') :
    wpAny (model X.prog X.w) X.A (comprehension e scope X.env pos' mk false (eval iter X.env) use) Qf X.xe s := by
  have closed : ∀ y ∈ scope.names, y.2 = .free → ∃ c, X.env.cells.lookup y.1 = some c := fun y hy ey =>
    (ok.free y hy ey).elim (fun k => I.ok.has _ (.inl k)) fun k => I.ok.has _ (.inr k)
  refine wpAny_comprehension_free (use := use) clauses hs (closure_ok closed) ok.kind (fun y hy ey => by rw [ok.uniq y hy, ey]) ?_
  refine thn (hi.run pins s σ H _ I h) fun _ _ hx => thn hx fun itv s2 h2 => ?_
  obtain ⟨it, fp, tn, J, H2, rfl, I2, T, st2, f2, q⟩ := h2
  refine hmk s2 _ (newEnv_comp ?_)
  have fresh : H2 s2.heap.objs.size = none := I2.hok.fresh (Nat.le_refl _)
  obtain ⟨W, ⟨m0, w0⟩, turn⟩ := q s2.heap.objs.size fresh
  have I3 : L2.Inv X pins σ (upd H2 s2.heap.objs.size (new s2.heap.objs.size)) { s2 with heap := s2.heap.push o0 } := I2.laid (t' := s2.toks) (fun b o eo => Heap.get?_push_of_some _ eo) (Nat.le_refl _) (hnew s2 H2 I2)
  have up : ∀ b o, s2.heap.get? b = some o → (s2.heap.push o0).get? b = some o := fun b o eo => Heap.get?_push_of_some _ eo
  have f3 : ∀ b ∈ fp, FpOk X pins (upd H2 s2.heap.objs.size (new s2.heap.objs.size)) b ∧ b < (s2.heap.push o0).objs.size := fun b hb => by
    obtain ⟨o, eo, _⟩ := T.obj _ _ st2 b hb
    have lt := Heap.lt_size eo
    refine ⟨⟨?_, (f2 b hb).2⟩, by rw [Heap.size_push]; exact Nat.lt_succ_of_lt lt⟩
    rw [upd_ne (Nat.ne_of_lt lt)]
    exact (f2 b hb).1
  have st3 : tn 0 (s2.heap.push o0) := T.keep _ _ _ st2 fun b _ o eo => up b o eo
  have I4 := block_start I3 ok hN f3
  obtain ⟨cl, ecl⟩ : ∃ cl, cl = cellsFrom ((s2.heap.push o0).objs.size + 1) scope.names (cloFrom X.env.cells scope.names []) := ⟨_, rfl⟩
  have st4 : tn 0 (pushCells ((s2.heap.push o0).push { cls := .type "dict", data := .dict #[] }) scope.names) := T.keep _ _ _ st3 fun b _ o eo => pushCells_keeps _ _ _ _ (Heap.get?_push_of_some _ eo)
  obtain ⟨s4, es4⟩ : ∃ s4 : Shared, s4 = { s2 with heap := pushCells ((s2.heap.push o0).push { cls := .type "dict", data := .dict #[] }) scope.names } := ⟨_, rfl⟩
  have I4 : L2.Inv (X.blk { s2 with heap := s2.heap.push o0 } (upd H2 s2.heap.objs.size (new s2.heap.objs.size)) scope (compEnvC scope cl (s2.heap.push o0).objs.size X.env) fp) [] (wipe σ (own.map (·.2))) (upd H2 s2.heap.objs.size (new s2.heap.objs.size)) s4 := by
    rw [es4, ecl]
    exact I4
  have st4' : tn 0 s4.heap := by rw [es4]; exact st4
  have none0 : ∀ b ∈ fp, upd H2 s2.heap.objs.size (new s2.heap.objs.size) b = none := fun b hb => (f3 b hb).1.1
  have loop := loops { s2 with heap := s2.heap.push o0 } (upd H2 s2.heap.objs.size (new s2.heap.objs.size)) (s2.heap.push o0).objs.size cl fp it s2.heap.objs.size
    (fun n s' => ∃ i H', L2.Inv (X.blk { s2 with heap := s2.heap.push o0 } (upd H2 s2.heap.objs.size (new s2.heap.objs.size)) scope (compEnvC scope cl (s2.heap.push o0).objs.size X.env) fp) [] (wipe σ (own.map (·.2))) H' s' ∧ tn i s'.heap ∧ (∀ b ∈ fp, H' b = none) ∧ W i n H')
    (compPost (model X.prog X.w) X.A X.xe use Qf (.ref s2.heap.objs.size) (s2.heap.push o0).objs.size) ?_ m0 s4 ⟨0, _, I4, st4', none0, w0⟩
  · have all : codeAny (model X.prog X.w) X.A (.compStart e 0 (.ref it) (.ref s2.heap.objs.size) (compEnvC scope cl (s2.heap.push o0).objs.size X.env)) (compPost (model X.prog X.w) X.A X.xe use Qf (.ref s2.heap.objs.size) (s2.heap.push o0).objs.size) s4 :=
      starts _ _ _ _ _ loop (T.self X.A 0 _ _ _ st4' loop)
    rw [es4, ecl] at all
    exact all
  · rintro n s5 ⟨i, H5, I5, st5, n5, w5⟩
    have fine : ∀ {H' : Hp} {s' : Shared}, L2.Inv (X.blk { s2 with heap := s2.heap.push o0 } (upd H2 s2.heap.objs.size (new s2.heap.objs.size)) scope (compEnvC scope cl (s2.heap.push o0).objs.size X.env) fp) [] (wipe σ (own.map (·.2))) H' s' → (∀ b ∈ fp, H' b = none) →
        ∀ b ∈ fp, FpOk (X.blk { s2 with heap := s2.heap.push o0 } (upd H2 s2.heap.objs.size (new s2.heap.objs.size)) scope (compEnvC scope cl (s2.heap.push o0).objs.size X.env) fp) [] H' b := fun {H' s'} I' hn b hb =>
      ⟨hn b hb, (I'.ok.exf b hb).1, I'.ok.exfs b hb, .inl hb, fun x c ec => (I'.ok.exf b hb).2 x c ec, fun p hp => nomatch hp⟩
    unfold OneTurn
    rcases turn i n H5 w5 with ⟨stop, qs⟩ | ⟨go, Nx, less, step⟩
    · refine thnF (T.done (X.blk _ _ scope _ fp) rfl rfl rfl hc i [] s5 _ H5 nobody I5 (fine I5 n5) st5 stop) fun r s6 ⟨er, I6⟩ => ?_
      subst er
      have I7 : L2.Inv X pins σ H5 s6 := I3.call' (ch := fp) I6.os I6.base I6.hok I6.bare fun b hb => by
        obtain ⟨_, k1, k2, k3, k4, k5⟩ := (f3 b hb).1
        exact ⟨k3, k1, k4, k5⟩
      obtain ⟨mm, ns, _⟩ := I6.loc
      exact out _ _ s6 mm H5 I7 qs ns (I3.fpOk (Nat.le_refl _) I6.free)
    · refine thnF (T.item (X.blk _ _ scope _ fp) rfl rfl rfl hc i [] s5 _ H5 nobody I5 (fine I5 n5) st5 go) fun r s6 ⟨u, er, h6⟩ => ?_
      subst er
      refine thnF h6 fun _ s7 ⟨x, H7, I7, rel, yl, st7, n7⟩ => ?_
      have I8 := I7.pinned (fine I7 n7) (T.obj _ _ st7)
      refine thnF ((hg _ _ _ cl fp).run _ s7 _ H7 x u _ I8 rel (step x H7 yl)) fun _ s8 ⟨σ8, H8, I9, kw, q8⟩ => ?_
      refine thnF ((ht _ _ _ cl fp).run _ s8 σ8 H8 _ I9 q8) fun b s9 ⟨H9, I10, q9⟩ => ?_
      refine ⟨_, σ8, H9, Nx, I10, q9, fun s' H' I' nx => ?_⟩
      obtain ⟨m', lt, w'⟩ := less H' nx
      have held : ∀ c ∈ fp, ∀ o, s7.heap.get? c = some o → s'.heap.get? c = some o ∧ H' c = none := fun c hcc o eo => by
        obtain ⟨k1, k2, _⟩ := I'.pin (c, o) (List.mem_append_right _ (List.mem_append_right _ (mem_pinsAt hcc eo)))
        exact ⟨k1, k2⟩
      refine ⟨m', lt, i + 1, H', (I'.unpinned (pins := [])).weak (by rw [← kw, wipe_length]) (fun j v ev => ?_), T.keep _ _ _ st7 fun c hcc o eo => (held c hcc o eo).1, fun c hcc => ?_, w'⟩
      · rw [← kw] at ev
        exact (wipe_some ev).1
      · obtain ⟨o, eo, _⟩ := T.obj _ _ st7 c hcc
        exact (held c hcc o eo).2
end
end MX
end
section
/-! {e for x in xs if t} with numbers or words; {x: v for x in xs} whose keys are tuples. -/
namespace MX
open PySem PySem.Spec PyProof.Rows L2 PySem.W

def tSetQ (P : Program) (w : World) (wi : TI) (g : TG) (tt : TT) (te : TE) (vs : List Nat) : TE :=
  tGather (fun D => SetQO P w D (fun _ => false) 0) (fun D σ H Nx => te σ H fun y H4 => ∃ (k : Key) (S : Key → Bool) (n : Nat), y = kV k ∧ H4 D = some (SetQO P w D S n) ∧ n + 1 < scanBound ∧
    Nx (upd H4 D (SetQO P w D (fun j => S j || decide (j = k)) (if S k = true then n else n + 1)))) wi g tt vs
def tDcT (wi : TI) (g : TG) (tt : TT) (tk tv : TE) (vs : List Nat) : TE :=
  tGather (fun _ => .dT []) (fun D σ H Nx => tk σ H fun y H4 => tv σ H4 fun z H5 => ∃ (kvs : List (List Key × V)) (k : List Key) (b : Addr), y = .ref b ∧ H5 b = some (.tup (k.map kV)) ∧ H5 D = some (.dT kvs) ∧ kvs.length < sizeLine ∧
    Nx (upd H5 D (.dT (putK kvs k z)))) wi g tt vs

section
variable {X : Cx}
/-- d[(..)] = v by a comprehension -/
theorem put_dt {pins : List (Addr × Obj)} {σ : L2.St} {H : Hp} {s : Shared} {E : Value → Shared → Prop} {D b : Addr} {kvs : List (List Key × V)} {k : List Key} {v : V} {r : Value} {Q : Unit → Shared → Prop} (hu : X.A.units < cLine) (I : L2.Inv X pins σ H s)
    (hD : H D = some (.dT kvs)) (hb : H b = some (.tup (k.map kV))) (room : kvs.length < sizeLine) (rv : RelV v r) (q : ∀ s', L2.Inv X pins σ (upd H D (.dT (putK kvs k v))) s' → Q () s') : wpAny (model X.prog X.w) X.A (dictSet D (.ref b) r) Q E s := by
  obtain ⟨low, notSys, xs, rel, dict⟩ := dt_of I.hok hD
  have lowx : xs.length ≤ sizeLine := by rw [← Paired.length rel]; exact low
  have big : (putK kvs k v).length ≤ sizeLine := by
    have := length_putK kvs k v
    omega
  refine wpAny_dictSet_heap (knd := tupleKind (mixKind X.prog X.w)) (hsz := lowx) hu (key_of I.hok hb) dict fun h' dict' sb => q _ ?_
  obtain ⟨o, es, ep, ho, ex, hd, he, _, nd⟩ := dict'
  refine d_write I (by rw [hD]; exact True.intro) sb ⟨o, ho⟩ ⟨big, notSys, _, (rel.put k hb rv).keeps fun c ys hc => ?_, o, es, ep, ho, ex, hd, he, nd⟩
  have ne : c ≠ D := fun e => by rw [e, hD] at hc; cases hc
  rw [upd_ne ne]
  exact hc

theorem pe_setQ {elt tg iter : Expr} {ifs : List Expr} {scope : Scope} {own : List (PySem.Str × Nat)} {pos : Pos} {wi : TI} {g : TG} {tt : TT} {te : TE} (hc : X.calm = true) (hN : X.N.Nodup) (hi : PI X tg iter wi) (ok : BlkOk X.N X.env.scope scope own)
    (hg : ∀ (s : Shared) (H : Hp) (C : Addr) (cl : List (PySem.Str × Addr)) (fp : List Addr), PG (X.blk s H scope (compEnvC scope cl C X.env) fp) tg g) (ht : ∀ (s : Shared) (H : Hp) (C : Addr) (cl : List (PySem.Str × Addr)) (fp : List Addr), PTs (X.blk s H scope (compEnvC scope cl C X.env) fp) ifs tt)
    (he : ∀ (s : Shared) (H : Hp) (C : Addr) (cl : List (PySem.Str × Addr)) (fp : List Addr), PE (X.blk s H scope (compEnvC scope cl C X.env) fp) elt te) (hs : ∀ x, foldedSetIterable iter X.env x = pure x := by intro _; rfl) :
    PE X (.SetComp elt [⟨tg, iter, ifs, 0⟩] scope pos) (tSetQ X.prog X.w wi g tt te (own.map (·.2))) := by
  constructor
  intro pins s σ H Q I h
  rw [PpSet.eval_SetComp]
  refine gather (o0 := newbie X.w) hc hN I hi ok rfl (fun s Q q => PpSet.newSet_ok q) (fun s H I' => ok_setQO (setQ_new (Heap.get?_push_size _ rfl))) hg ht ?_ (fun it acc ce R s4 a b => PpSet.codeAny_compStart_set a b) hs h ?_
  · intro s3 H3 C cl fp it D Iv R turns n s4 i4
    refine PpSet.compLoopS_any Iv (fun n s5 i5 => thnF (turns n s5 i5) fun r s6 h6 => ?_) n i4
    cases r with
    | none => exact h6
    | some v =>
      refine thnF h6 fun _ s7 h7 => thnF h7 fun _ s8 h8 => thnF h8 fun b s9 ⟨pl, σ9, H9, Nx, I9, q9, next⟩ => ?_
      cases b with
      | false => exact next s9 H9 I9 q9
      | true =>
        refine thnF ((he s3 H3 C cl fp).run pl s9 σ9 H9 _ I9 q9) fun z s10 ⟨y, H10, I10, r10, k, S, m, ey, at10, room, nx⟩ => ?_
        subst ey
        exact call_add (get_setQ I10 at10) (is_key r10) room fun h' sb R' => next _ _ (wrote I10 at10 sb R') nx
  · intro D C s' m H' I' q ns f
    refine ⟨m, ns, fun h2 sb => ?_⟩
    obtain ⟨f0, f1, f2, f3, f4, f5⟩ := f
    exact ⟨.ref D, H', I'.turned (t' := s'.toks) (fun b o hb e => (sb.2 b hb).trans e) f0 f1 f3 f4 f5, rfl, q⟩

theorem pe_dcT {kx vx tg iter : Expr} {ifs : List Expr} {scope : Scope} {own : List (PySem.Str × Nat)} {pos : Pos} {wi : TI} {g : TG} {tt : TT} {tk tv : TE} (hc : X.calm = true) (hu : X.A.units < cLine) (hN : X.N.Nodup) (hi : PI X tg iter wi) (ok : BlkOk X.N X.env.scope scope own)
    (hg : ∀ (s : Shared) (H : Hp) (C : Addr) (cl : List (PySem.Str × Addr)) (fp : List Addr), PG (X.blk s H scope (compEnvC scope cl C X.env) fp) tg g) (ht : ∀ (s : Shared) (H : Hp) (C : Addr) (cl : List (PySem.Str × Addr)) (fp : List Addr), PTs (X.blk s H scope (compEnvC scope cl C X.env) fp) ifs tt)
    (hk : ∀ (s : Shared) (H : Hp) (C : Addr) (cl : List (PySem.Str × Addr)) (fp : List Addr), PE (X.blk s H scope (compEnvC scope cl C X.env) fp) kx tk)
    (he : ∀ (s : Shared) (H : Hp) (C : Addr) (cl : List (PySem.Str × Addr)) (fp : List Addr), PE (X.blk s H scope (compEnvC scope cl C X.env) fp) vx tv) (hs : ∀ x, foldedSetIterable iter X.env x = pure x := by intro _; rfl) :
    PE X (.DictComp kx vx [⟨tg, iter, ifs, 0⟩] scope pos) (tDcT wi g tt tk tv (own.map (·.2))) := by
  constructor
  intro pins s σ H Q I h
  rw [arm_eval_DictComp]
  refine gather (o0 := { cls := .type "dict", data := .dict #[] }) hc hN I hi ok rfl (fun s Q q => wpAny_newObj_type q) (fun s H I' => dt_empty s.heap I'.big) hg ht ?_ (fun it acc ce R s4 a b => codeAny_compStart_dict a b) hs h ?_
  · intro s3 H3 C cl fp it D Iv R turns n s4 i4
    refine compLoop_anyD Iv (fun n s5 i5 => thnF (turns n s5 i5) fun r s6 h6 => ?_) n i4
    cases r with
    | none => exact h6
    | some v =>
      refine thnF h6 fun _ s7 h7 => thnF h7 fun _ s8 h8 => thnF h8 fun b s9 ⟨pl, σ9, H9, Nx, I9, q9, next⟩ => ?_
      cases b with
      | false => exact next s9 H9 I9 q9
      | true =>
        refine thnF ((hk s3 H3 C cl fp).run pl s9 σ9 H9 _ I9 q9) fun z s10 ⟨y, H10, I10, r10, q10⟩ => ?_
        refine thnF ((he s3 H3 C cl fp).run pl s10 σ9 H10 _ I10 q10) fun z2 s11 ⟨y2, H11, I11, r11, kvs, k, b, ey, atb, atD, room, nx⟩ => ?_
        subst ey
        obtain rfl : z = Value.ref b := r10
        exact put_dt (X := X.blk s3 H3 scope (compEnvC scope cl C X.env) fp) hu I11 atD atb room r11 fun s12 I12 => next s12 _ I12 nx
  · intro D C s' m H' I' q ns f
    refine ⟨m, ns, fun h2 sb => ?_⟩
    obtain ⟨f0, f1, f2, f3, f4, f5⟩ := f
    exact ⟨.ref D, H', I'.turned (t' := s'.toks) (fun b o hb e => (sb.2 b hb).trans e) f0 f1 f3 f4 f5, rfl, q⟩
end

/-- the turns over a tuple -/
abbrev TurnsOver (K : PySem.W.Frag) (a : Addr) (g : TG) (tt : TT) (vs : List Nat) (σ : L2.St) (body : L2.St → Hp → (Hp → Prop) → Prop) (H0 : Hp) (Qd : Hp → Prop) : Prop :=
  ∃ W : Nat → Nat → Hp → Prop, (∃ m, W 0 m H0) ∧ ∀ i m H, W i m H → ((Itt K a).stop i H ∧ Qd H) ∨
    ((Itt K a).go i H ∧ ∃ Nx : Hp → Prop, (∀ H', Nx H' → ∃ m', m' < m ∧ W (i + 1) m' H') ∧ ∀ x H', (Itt K a).yld i H x H' → g x (wipe σ vs) H' fun σ2 H3 => wipe σ2 vs = wipe σ vs ∧ tt σ2 H3 fun b H4 => if b = true then body σ2 H4 Nx else Nx H4)
/-- that stays -/
theorem gather_tup {K : PySem.W.Frag} {a : Addr} {xs : List V} {body : L2.St → Hp → (Hp → Prop) → Prop} {g : TG} {tt : TT} {vs : List Nat} {σ : L2.St} {H0 : Hp} {Qd : Hp → Prop} (Pv : Nat → Hp → Prop) (h0 : Pv 0 H0) (hl : ∀ i H, i ≤ xs.length → Pv i H → SqT K H a xs)
    (hs : ∀ i x H, xs[i]? = some x → Pv i H → g x (wipe σ vs) H fun σ2 H3 => wipe σ2 vs = wipe σ vs ∧ tt σ2 H3 fun b H4 => if b = true then body σ2 H4 (Pv (i + 1)) else Pv (i + 1) H4) (hd : ∀ H, Pv xs.length H → Qd H) : TurnsOver K a g tt vs σ body H0 Qd := by
  refine ⟨fun i m H => i + m = xs.length ∧ Pv i H, ⟨xs.length, Nat.zero_add _, h0⟩, fun i m H ⟨e, p⟩ => ?_⟩
  have here := hl i H (by omega) p
  cases m with
  | zero =>
    obtain rfl : i = xs.length := by omega
    exact .inl ⟨⟨xs, here, Nat.le_refl _⟩, hd H p⟩
  | succ m =>
    have lt : i < xs.length := by omega
    refine .inr ⟨⟨xs, xs[i], here, List.getElem?_eq_getElem lt⟩, Pv (i + 1), fun H' p' => ⟨m, Nat.lt_succ_self m, by omega, p'⟩, fun x H' y => ?_⟩
    rw [y.1]
    exact hs i x H (y.2 xs here) p
theorem setq_tup {P : Program} {w : World} {K : PySem.W.Frag} {a : Addr} {xs : List V} {g : TG} {tt : TT} {te : TE} {vs : List Nat} {σ : L2.St} {H1 : Hp} {D : Addr} {Qd : Hp → Prop} (Pv : Nat → Hp → Prop) (h0 : Pv 0 (upd H1 D (SetQO P w D (fun _ => false) 0))) (hl : ∀ i H, i ≤ xs.length → Pv i H → SqT K H a xs)
    (hs : ∀ i x H, xs[i]? = some x → Pv i H → g x (wipe σ vs) H fun σ2 H3 => wipe σ2 vs = wipe σ vs ∧ tt σ2 H3 fun b H4 => if b = true then te σ2 H4 fun y H5 => ∃ (k : Key) (S : Key → Bool) (n : Nat), y = kV k ∧ H5 D = some (SetQO P w D S n) ∧ n + 1 < scanBound ∧
      Pv (i + 1) (upd H5 D (SetQO P w D (fun j => S j || decide (j = k)) (if S k = true then n else n + 1))) else Pv (i + 1) H4) (hd : ∀ H, Pv xs.length H → Qd H) :
    TurnsOver K a g tt vs σ (fun σ H Nx => te σ H fun y H4 => ∃ (k : Key) (S : Key → Bool) (n : Nat), y = kV k ∧ H4 D = some (SetQO P w D S n) ∧ n + 1 < scanBound ∧
      Nx (upd H4 D (SetQO P w D (fun j => S j || decide (j = k)) (if S k = true then n else n + 1)))) (upd H1 D (SetQO P w D (fun _ => false) 0)) Qd := gather_tup Pv h0 hl hs hd
theorem dct_tup {K : PySem.W.Frag} {a : Addr} {xs : List V} {g : TG} {tt : TT} {tk tv : TE} {vs : List Nat} {σ : L2.St} {H1 : Hp} {D : Addr} {Qd : Hp → Prop} (Pv : Nat → Hp → Prop) (h0 : Pv 0 (upd H1 D (.dT []))) (hl : ∀ i H, i ≤ xs.length → Pv i H → SqT K H a xs)
    (hs : ∀ i x H, xs[i]? = some x → Pv i H → g x (wipe σ vs) H fun σ2 H3 => wipe σ2 vs = wipe σ vs ∧ tt σ2 H3 fun b H4 => if b = true then tk σ2 H4 fun y H5 => tv σ2 H5 fun z H6 => ∃ (kvs : List (List Key × V)) (k : List Key) (b : Addr), y = .ref b ∧ H6 b = some (.tup (k.map kV)) ∧ H6 D = some (.dT kvs) ∧ kvs.length < sizeLine ∧
      Pv (i + 1) (upd H6 D (.dT (putK kvs k z))) else Pv (i + 1) H4) (hd : ∀ H, Pv xs.length H → Qd H) :
    TurnsOver K a g tt vs σ (fun σ H Nx => tk σ H fun y H4 => tv σ H4 fun z H5 => ∃ (kvs : List (List Key × V)) (k : List Key) (b : Addr), y = .ref b ∧ H5 b = some (.tup (k.map kV)) ∧ H5 D = some (.dT kvs) ∧ kvs.length < sizeLine ∧
      Nx (upd H5 D (.dT (putK kvs k z)))) (upd H1 D (.dT [])) Qd := gather_tup Pv h0 hl hs hd
end MX
end
section
/-! enumerate(xs), xs a list or a tuple. -/
namespace MX
open PySem PySem.Spec PyProof.Rows L2 PySem.W

/-- the tuple at a as it stands at each turn, each item in a new pair -/
def IteT (K : PySem.W.Frag) (a : Addr) : It where
  go i H := ∃ (xs : List V) (x : V), SqT K H a xs ∧ xs[i]? = some x
  yld i H v H' := ∃ T x, v = .ref T ∧ H T = none ∧ H' = upd H T (.tup [.int (i : Nat), x]) ∧ ∀ xs, SqT K H a xs → xs[i]? = some x
  stop i H := ∃ xs : List V, SqT K H a xs ∧ xs.length ≤ i
def iEnumS (K : PySem.W.Frag) (ta : TA) : TI := fun σ H R => ta σ H fun vs H1 => ∃ a xs, vs = [.ref a] ∧ ((SqL K H1 a xs ∧ R (Ite K a) H1) ∨ (SqT K H1 a xs ∧ R (IteT K a) H1))

set_option maxHeartbeats 1000000 in
/-- a new enumerate over what can begin -/
theorem enum_made {v : Value} {o : Obj} {Hh : Heap → Prop} (B : Begins v o Hh) : Meets (Builtin.«enumerate.__new__» ⟨[.type "enumerate", v], []⟩) (fun _ R s => Hh s.heap ∧
    R (.ok (.ret (.ref (s.heap.push o).objs.size))) { s with heap := (s.heap.push o).push { cls := .type "enumerate", data := .fields #[.none, .bool false, .ref s.heap.objs.size, rawInt 0, .none, .none] } }) := by
  refine Meets.of_wp fun P w A R s ⟨ready, fin⟩ => ?_
  obtain ⟨heap, gens, drawn, toks, os⟩ := s
  have sub := sub_enumerate
  have begin_ : ∀ {A' : Around} {E : Value → Shared → Prop} {Q : Value → Shared → Prop}, Q (.ref heap.objs.size) ⟨heap.push o, gens, drawn, toks, os⟩ → wpAny (model P w) A' (pyIter v) Q E ⟨heap, gens, drawn, toks, os⟩ :=
    fun z => B.iter P w _ _ ⟨heap, gens, drawn, toks, os⟩ _ ready z
  wp_walk using begin_
  refine wpAny_stack_any fun frames => wpAny_pure ?_
  split
  · rename_i c _ _ _ _ _
    rcases Bool.eq_false_or_eq_true (c == Value.type "enumerate") with y | y
    all_goals
      rw [y]
      wp_walk using begin_
      exact ⟨_, rfl, fin⟩
  · wp_walk using begin_
    exact ⟨_, rfl, fin⟩
section
variable {P : Program} {w : World} {A : Around} {E : Value → Shared → Prop} {s : Shared}
theorem enum_call {v : Value} {o : Obj} {Hh : Heap → Prop} {Q : Value → Shared → Prop} (B : Begins v o Hh) (ready : Hh s.heap)
    (q : ∀ h', IsEnum h' (s.heap.objs.size + 1) s.heap.objs.size 0 .none → h'.get? s.heap.objs.size = some o → (∀ b u, s.heap.get? b = some u → h'.get? b = some u) → Q (.ref (s.heap.objs.size + 1)) { s with heap := h' }) :
    wpAny (model P w) A (call (.type "enumerate") [v]) Q E s := by
  have size1 : (s.heap.push o).objs.size = s.heap.objs.size + 1 := Heap.size_push ..
  have en : IsEnum ((s.heap.push o).push { cls := .type "enumerate", data := .fields #[.none, .bool false, .ref s.heap.objs.size, rawInt 0, .none, .none] }) (s.heap.objs.size + 1) s.heap.objs.size 0 .none := by
    have z := Heap.get?_push_size (s.heap.push o) (o := { cls := .type "enumerate", data := .fields #[.none, .bool false, .ref s.heap.objs.size, rawInt 0, .none, .none] }) rfl
    rw [size1] at z
    exact z
  refine callType_new F.called_enumerate (by decide) (F.typeCall_enumerate_1 v) (F.newCall_enumerate_1 v) (fun obj => F.args_object_init_2 obj v) F.entry_enumerate_new (enum_made B) ⟨ready, ?_⟩
  show _ ∧ _
  rw [size1]
  exact ⟨⟨_, en, rfl⟩, q _ en (Heap.get?_push_of_some _ (Heap.get?_push_size _ B.free)) fun b u e => Heap.get?_push_of_some _ (Heap.get?_push_of_some _ e)⟩
end

/-- its turns, over a tuple -/
theorem turn_enumT {P : Program} {w : World} {K : PySem.W.Frag} {elts : List Expr} {kk : Nat} {tpos : Pos} (a e it : Addr) :
    Turn P w K (.Tuple elts kk tpos) (IteT K a) [e, it] e (fun i h => (∃ old, IsEnum h e it ((i : Nat) : Int) old) ∧ h.IsTupleIter it a i ∧ e ≠ it ∧ a ≠ e ∧ a ≠ it) where
  mem := List.mem_cons_self
  obj := by
    rintro i h ⟨⟨old, en⟩, ⟨o, ho, _, hd⟩, _⟩ b hb
    rcases List.mem_cons.mp hb with rfl | hb
    · exact ⟨_, en, fun v z => nomatch z⟩
    · rw [List.mem_singleton.mp hb]
      exact ⟨o, ho, fun v z => by rw [hd] at z; cases z⟩
  keep := by
    rintro i h h' ⟨⟨old, en⟩, ti, more⟩ k
    exact ⟨⟨old, k e List.mem_cons_self _ en⟩, ti.at fun o z => k it (List.mem_cons_of_mem _ List.mem_cons_self) o z, more⟩
  item := by
    rintro X rfl rfl rfl hc i pins s σ H E I ok ⟨⟨old, en⟩, ti, ne, ne1, ne2⟩ ⟨xs, x, seq, at_⟩
    obtain ⟨its, rv, tup, _⟩ := I.tuple seq
    obtain ⟨u, hu, ru⟩ := rv.get at_
    have lt1 : e < s.heap.objs.size := Heap.lt_size en
    have lt2 : it < s.heap.objs.size := by
      obtain ⟨o, ho, _⟩ := ti
      exact Heap.lt_size ho
    have few : i < its.toArray.size := by
      rw [List.size_toArray]
      exact (List.getElem?_eq_some_iff.mp hu).1
    have out : e ∉ [it, a] := by
      rw [List.mem_cons, List.mem_singleton]
      rintro (z | z)
      · exact ne z
      · exact ne1 z.symm
    refine wpAny_pyNext_enum_itemD (Draws.tuple (A := X.A.in1) (I.ok.hd hc) it a ne2 its.toArray) en ⟨ti, tup⟩ few ne out fun v h1 tk pv out1 ⟨ti1, _⟩ made size1 old1 => ?_
    have ev : v = u := by
      have z : its.toArray[i]? = some v := pv
      rw [List.getElem?_toArray, hu] at z
      exact (Option.some.inj z).symm
    subst ev
    refine ⟨_, rfl, wpAny_letOwnedTupleGo_enum (s := { s with heap := h1, toks := tk + 1 }) out1 fun h2 en2 sb => ?_⟩
    have ne3 : s.heap.objs.size ≠ e := Nat.ne_of_gt lt1
    have made2 : h2.get? s.heap.objs.size = some { cls := .type "tuple", data := .seq #[.int i tk, v] } := (sb.2 _ ne3).trans made
    have new : ObjOk X.prog X.w (upd H s.heap.objs.size (.tup [.int (i : Nat), x])) h2 s.heap.objs.size (.tup [.int (i : Nat), x]) := by
      refine ⟨?_, [.int i tk, v], .cons ⟨tk, rfl⟩ (.cons ru .nil), ⟨_, made2, rfl, 0, rfl⟩⟩
      show 2 ≤ sizeLine
      rw [sizeLine_eq]
      omega
    have I1 : L2.Inv X pins σ (upd H s.heap.objs.size (.tup [.int (i : Nat), x])) { s with heap := h2, toks := tk + 1 } := by
      refine I.turnedNew (ch := [e, it]) (fun b o nb hb => ?_) ok (Nat.le_refl _) new
      have b1 : b ≠ e := fun z => nb (by rw [z]; exact List.mem_cons_self)
      have b2 : b ≠ it := fun z => nb (by rw [z]; exact List.mem_cons_of_mem _ List.mem_cons_self)
      exact (sb.2 b b1).trans (old1 b o b1 b2 hb)
    refine ⟨.ref s.heap.objs.size, _, I1, rfl, ⟨_, x, rfl, I.hok.fresh (Nat.le_refl _), rfl, fun ys hy => ?_⟩, ⟨⟨v, ?_⟩, ti1.at fun o z => (sb.2 it (Ne.symm ne)).trans z, ne, ne1, ne2⟩, fun b hb => ?_⟩
    · rw [I.tuple_inj hy seq]
      exact at_
    · rw [show ((i + 1 : Nat) : Int) = (i : Int) + 1 by omega]
      exact en2
    · have lb : b < s.heap.objs.size := by
        rcases List.mem_cons.mp hb with z | z
        · rw [z]; exact lt1
        · rw [List.mem_singleton.mp z]; exact lt2
      rw [upd_ne (Nat.ne_of_lt lb)]
      exact (ok b hb).1
  done := by
    rintro X rfl rfl rfl hc i pins s σ H E I ok ⟨⟨old, en⟩, ti, ne, ne1, ne2⟩ ⟨xs, seq, le⟩
    obtain ⟨its, rv, tup, _⟩ := I.tuple seq
    have len := rv.length
    obtain ⟨f0, f1, f2, f3, f4, f5⟩ := ok it (List.mem_cons_of_mem _ List.mem_cons_self)
    have past : its.toArray[i]? = none := by
      rw [List.getElem?_toArray]
      exact List.getElem?_eq_none (by omega)
    have over : Draws X.prog X.w X.A.in1 it [it, a] i (fun _ _ => False) (fun j h => j = i ∧ h.IsTupleIter it a j ∧ h.IsTuple a its.toArray) := by
      refine ⟨fun j h ⟨_, ⟨o, ho, _⟩, _⟩ => ⟨o, ho⟩, fun j h h' ⟨ej, t1, t2⟩ k => ⟨ej, t1.at fun o z => k it (by simp) o z, t2.at fun o z => k a (by simp) o z⟩, fun j s Q E lt ⟨ej, _⟩ _ => absurd lt (by omega), fun s Q E ⟨_, t1, t2⟩ z => ?_⟩
      exact wpAny_nextOf_tuple_end (I.ok.hd hc) t1 t2 past z
    exact wpAny_pyNext_enum_endD over en ⟨rfl, ti, tup⟩ fun h' eb => ⟨rfl, I.turned (t' := s.toks) (fun b o nb z => eb b o nb z) f0 f1 f3 f4 f5⟩
  self := fun A i s Q E st z => by
    obtain ⟨⟨_, en⟩, _⟩ := st
    exact wpAny_pyIter_enum en z

/-- for i, x in enumerate(xs) -/
theorem pi_enumS {X : Cx} {e : Expr} {ta : TA} {p pos tpos : Pos} {elts : List Expr} {kk : Nat} (hg : Gl X "enumerate") (hm : X.mg "enumerate" = none) (ha : PA X [e] ta) (hs : starEach [e] X.env = [(false, eval e X.env)] := by rfl) :
    PI X (.Tuple elts kk tpos) (.Call (.Name "enumerate" p) [e] [] pos) (iEnumS X.K ta) := by
  constructor
  intro pins s σ H R I h
  refine Call_ (ld_blt I hg hm boot_enumerate (PyProof.Rows.callWith_type1 ?_ hs rfl))
  refine thn (ha.run pos pins s σ H _ I h) fun us s1 ⟨vs, H1, I1, r1, a, xs, ev, which⟩ => ?_
  subst ev
  rw [Vals.ref1 r1]
  have two : ∀ b ∈ [s1.heap.objs.size + 1, s1.heap.objs.size], FpOk X pins H1 b := fun b hb => by
    have big : s1.heap.objs.size ≤ b := by
      rcases List.mem_cons.mp hb with z | z
      · rw [z]; exact Nat.le_succ _
      · rw [List.mem_singleton.mp z]; exact Nat.le_refl _
    exact I1.fpOk big (I1.hok.fresh big)
  rcases which with ⟨seq, q⟩ | ⟨seq, q⟩
  · obtain ⟨its, rv, pl, _⟩ := I1.list seq
    refine enum_call (begins_list a its.toArray) pl.isList fun h' en made old => wpAny_pyIter_enum en ?_
    exact ⟨_, _, _, _, H1, rfl, I1.kept (t' := s1.toks) old, turn_enum a (s1.heap.objs.size + 1) s1.heap.objs.size, ⟨⟨_, en⟩, ⟨_, made, rfl, rfl⟩, Nat.succ_ne_self _⟩, two, q⟩
  · obtain ⟨its, rv, tup, _⟩ := I1.tuple seq
    have lt : a < s1.heap.objs.size := by
      obtain ⟨o, ho, _⟩ := tup
      exact Heap.lt_size ho
    refine enum_call (begins_tuple a its.toArray) tup fun h' en made old => wpAny_pyIter_enum en ?_
    exact ⟨_, _, _, _, H1, rfl, I1.kept (t' := s1.toks) old, turn_enumT a (s1.heap.objs.size + 1) s1.heap.objs.size, ⟨⟨_, en⟩, ⟨_, made, rfl, rfl⟩, Nat.succ_ne_self _, Nat.ne_of_lt (Nat.lt_succ_of_lt lt), Nat.ne_of_lt lt⟩, two, q⟩
end MX
end
section
/-! len(o), o != p of own instances; making one and a method of one where a try stands around. -/
namespace L2
open PySem PySem.Spec PyProof.Rows PySem.W

section
variable {X : Cx} {CX : CXT} {k : Nat} {f C : Addr} {fd : FuncData} {ps : List PySem.Str} {sp : Sp} {E : XK} {pins : List (Addr × Obj)} {σ : L2.St} {H : Hp} {s : Shared} {Q : VK} {us : List Value} {vs : List V} {A : Around}

/-- an own function called from within a built-in one -/
theorem run_sub (sb : Sub X k A) (F : FnOk X.prog X.w X.K X.mg X.base CX k f fd ps sp) (hb : Binds X.K fd ps []) (hx : PassesAt CX X σ E) (I : Inv X pins σ H s) (r : Vals vs us) (h : sp vs H Q E) :
    wpAny (model X.prog X.w) A (call (.ref f) us) (EP X pins σ Q) X.xe s := by
  have env : Env0 X.prog X.w X.K X.mg X.base A X.stack s H := { I.env0 with frames := sb.fr.trans I.env0.frames }
  have bound := hb s us I.kIn (by rw [List.append_nil, ← r.length]; exact F.len vs H Q E h)
  rw [List.append_nil] at bound
  refine wpAny_call (codeAny_mono (F.run A X.stack s H ⟨us, []⟩ us vs Q E sb.room env bound r h) fun res s' z => ?_)
  match res, z with
  | .error e, z => exact hx pins H s e s' I z
  | .ok (.ret u), z => exact I.after z
theorem sub_one (hr : Room (k + 1) X.A) : Sub X k X.A.in1 := ⟨hr.in1, rfl⟩

/-- the instance's class, as the model looks it up -/
theorem inst_at (I : Inv X pins σ H s) {a dx : Addr} {fs : List (PySem.Str × V)} (e : H a = some (.ins C dx fs)) : ∃ o od, InstAt s.heap a o C od := by
  obtain ⟨m, look, _⟩ := ins_get I.hok e
  obtain ⟨od, at_, _⟩ := look.look
  exact ⟨_, od, at_⟩

/-! ### len -/
def rLenOwn (C : Addr) (sp : Sp) : List V → Hp → VK → Prop := fun xs H Q => ∃ (p dx : Addr) (fs : List (PySem.Str × V)), xs = [V.ref p] ∧ H p = some (.ins C dx fs) ∧
  sp [V.ref p] H (fun v H' => ∃ n : Int, v = .int n ∧ 0 ≤ n ∧ n < 2 ^ 63 ∧ Q (.int n) H') E0
theorem call_lenOwn (find : findIn X.K (.ref C) "__len__" = some (some (.ref f))) (isF : isFn X.K (.ref f) = true) (F : FnOk X.prog X.w X.K X.mg X.base CX k f fd ps sp) (hb : Binds X.K fd ps []) (hr : Room (k + 1) X.A) (hx : Passes CX X E0) :
    CallR X (.builtin "len") (rLenOwn C sp) := by
  intro pins s σ H xs us Q I r h
  obtain ⟨p, dx, fs, rfl, hp, run⟩ := h
  obtain ⟨o, od, at_⟩ := inst_at I hp
  rw [Vals.ref1 r]
  refine Calls.call_function_entry kind_len plain_len entry_len (args_len1 (.ref p)) ?_
  unfold Builtin.«len»
  refine wpAny_bind (m := oneArg "len" ⟨[Value.ref p], []⟩) (wpAny_pure ?_)
  refine wpAny_bind (m := callSpecial? (Value.ref p) "__len__") (special_fn I.kIn at_ find (beq_iff_eq.mp isF) ?_)
  refine wpAny_mono (run_sub (sub_one hr) F hb (fun pins H s e s' => hx pins σ H s e s') I (.cons (show L2.RelV (V.ref p) (Value.ref p) from rfl) .nil) run) (fun v s1 ⟨y, H1, I1, rel, n, ey, low, high, q⟩ => ?_) fun _ _ z => z
  subst ey
  obtain ⟨t, rfl⟩ := rel
  refine wpAny_bind (wpAny_holding (wpAny_pure (wpAny_bind (wpAny_letGo ?_))))
  refine wp_if_neg (by omega) ?_
  try refine wpAny_bind (wpAny_pure ?_)
  refine wp_if_neg (by omega) ?_
  try refine wpAny_bind (wpAny_pure ?_)
  unfold retInt
  exact wpAny_bind (wpAny_mkInt (wpAny_pure ⟨_, rfl, ⟨.int n, H1, I1.tok _, ⟨_, rfl⟩, q⟩⟩))

/-! ### != -/
/-- a class with an own == and the built-in != -/
structure NeTxt (K : PySem.W.Frag) (C f : Addr) : Prop where
  eq : findIn K (.ref C) "__eq__" = some (some (.ref f))
  fn : isFn K (.ref f) = true
  ne : findIn K (.ref C) "__ne__" = some (some (.builtin "object.__ne__"))
  ob : mroIn K C (.type "object") = some true
def rNeOwn (C : Addr) (sp : Sp) : R2 := fun x y H Q => ∃ (p dp : Addr) (fp : List (PySem.Str × V)) (q dq : Addr) (fq : List (PySem.Str × V)), x = .ref p ∧ y = .ref q ∧ H p = some (.ins C dp fp) ∧ H q = some (.ins C dq fq) ∧
  sp [.ref p, .ref q] H (fun v H' => ∃ b : Bool, v = .bl b ∧ Q (.bl (!b)) H') E0
theorem bound_ne {M : Model} {B : Value → Shared → Prop} {K : PySem.W.Frag} {x : Addr} {o : Obj} {od : Option Obj} {args : List Value} {R : Option Value → Shared → Prop} (T : NeTxt K C f) (inK : K.In s.heap) (at_ : InstAt s.heap x o C od)
    (run : wpAny M A (call (.builtin "object.__ne__") (.ref x :: args)) (fun v => R (some v)) B s) : wpAny M A (callSpecialIfBound? (.ref x) "__ne__" args) R B s := by
  have go : wpAny M A (call (.builtin "object.__ne__") ([Value.ref x] ++ args) >>= fun v => pure (some v)) R B s := wpAny_bind (wpAny_mono run (fun _ _ z => wpAny_pure z) fun _ _ z => z)
  unfold callSpecialIfBound? bindSpecialIfBound?
  refine wpAny_holding (wpAny_bind (wpAny_bind ?_))
  refine wpAny_bind (at_.type.here ((looks_findIn inK T.ne).here ?_))
  refine wpAny_bind (wpAny_askSetting (wpAny_ite ?_))
  split
  · exact wpAny_bind (wpAny_of_eq (PySem.F.cmp_object.ne.bind (.ref x)) (wpAny_pure go))
  · exact wpAny_tryCatch (wpAny_bind (wpAny_of_eq (PySem.F.cmp_object.ne.bind (.ref x)) (wpAny_pure go)))
theorem op_neOwn (T : NeTxt X.K C f) (F : FnOk X.prog X.w X.K X.mg X.base CX k f fd ps sp) (hb : Binds X.K fd ps []) (hr : Room (k + 1) X.A) (hx : Passes CX X E0) : OpR X (compareOp .NotEq) (rNeOwn C sp) := by
  intro pins s σ H x y v u R I rx ry h
  obtain ⟨p, dp, fp, q, dq, fq, rfl, rfl, hp, hq, run⟩ := h
  obtain rfl : v = Value.ref p := rx
  obtain rfl : u = Value.ref q := ry
  obtain ⟨o, od, at_⟩ := inst_at I hp
  obtain ⟨o2, od2, at2⟩ := inst_at I hq
  have low1 : X.A.in1.units < cLine := hr.in1.units0
  have inner : wpAny (model X.prog X.w) X.A.in1 (Builtin.«object.__ne__» ⟨[.ref p, .ref q], []⟩) (fun fin s' => ∃ b H', fin = .done (.ret (.bool (!b))) ∧ Inv X pins σ H' s' ∧ R (.bl (!b)) H') X.xe s := by
    unfold Builtin.«object.__ne__»
    refine wpAny_bind (m := slotArgs "__ne__" 1 _) (wpAny_pure ?_)
    refine wpAny_bind (m := cRoomFor _ _) (wpAny_cRoomFor low1 ?_)
    refine wpAny_bind (m := callSpecialIfBound? (.ref p) "__eq__" [.ref q]) (ifBound_K I.kIn at_ T.eq T.fn ?_)
    refine wpAny_mono (run_sub (sub_one hr) F hb (fun pins H s e s' => hx pins σ H s e s') I (.cons (show L2.RelV (V.ref p) (Value.ref p) from rfl) (.cons (show L2.RelV (V.ref q) (Value.ref q) from rfl) .nil)) run) (fun v s1 ⟨y, H1, I1, rel, b, ey, z⟩ => ?_) fun _ _ z => z
    subst ey
    obtain rfl : v = Value.bool b := rel
    exact wpAny_bind (wpAny_truthy_bool (wpAny_pure ⟨b, H1, rfl, I1, z⟩))
  have call_ : wpAny (model X.prog X.w) X.A (call (.builtin "object.__ne__") [.ref p, .ref q]) (fun v s' => ∃ b H', v = .bool (!b) ∧ Inv X pins σ H' s' ∧ R (.bl (!b)) H') X.xe s := by
    refine wpAny_call (codeAny_call_builtin PySem.F.cmp_object.ne.plain PySem.F.cmpEntry_ne (check_slot PySem.F.cmpKind_ne PySem.F.cmpSplit_ne (at_.type.andThen (looks_mroIn I.kIn T.ob)) (PySem.F.cmpArgs_ne _ _) ?_))
    refine wpAny_mono inner (fun fin s' ⟨b, H', e, I', z⟩ => ?_) fun _ _ z => z
    subst e
    exact ⟨b, H', rfl, I', z⟩
  unfold compareOp richCompare
  simp only [oneThing_ref]
  refine wpAny_holding (wpAny_bind (wpAny_cRoomFor hr.units0 ?_))
  rw [cmpInfo_NotEq]
  dsimp only
  refine wpAny_bind (at_.type.here (wpAny_bind (at2.type.here ?_)))
  have same_ : ¬ (Value.ref C != Value.ref C) = true := by simp
  refine wp_if_neg same_ (wpAny_bind (wpAny_pure ?_))
  refine wp_if_neg (by decide) ?_
  try refine wpAny_bind (wpAny_pure ?_)
  refine wpAny_bind (m := tryCompare (.ref p) _ (.ref q)) ?_
  unfold tryCompare
  refine wpAny_bind (bound_ne T I.kIn at_ (wpAny_mono call_ (fun v s' ⟨b, H', e, I', z⟩ => ?_) fun _ _ z => z))
  subst e
  exact wpAny_pure (wpAny_pure ⟨.bl (!b), H', I', rfl, z⟩)

/-! ### where a try stands around -/
variable {Es : L2.St → XK} {x m : PySem.Str} {p pos apos : Pos} {e o : Expr} {es : List Expr} {ta : TE} {t : TA}
def tMakeS (C : Addr) (sp : Sp) (Es : L2.St → XK) (t : TA) : TE := fun σ H Q => tMake C sp [] (Es σ) t σ H Q
theorem made_run (M : Mk X.K C f) (F : FnOk X.prog X.w X.K X.mg X.base CX k f fd ps sp) (hr : Room (k + 1) X.A) (hb : Binds X.K fd ps []) (hx : PassesAt CX X σ E) (I : Inv X pins σ H s) (r : Vals vs us)
    (h : ∀ x dx, H x = none → H dx = none → dx ≠ x → sp (.ref x :: (vs ++ [])) (upd (upd H dx (.own x)) x (.ins C dx [])) (fun v H2 => v = .non ∧ Q (.ref x) H2) E) : wpAny (model X.prog X.w) X.A (call (.ref C) us) (EP X pins σ Q) X.xe s := by
  have I2 := Inv.made (C := C) I
  have run := h (s.heap.objs.size + 1) s.heap.objs.size (I.hok.fresh (Nat.le_succ _)) (I.hok.fresh (Nat.le_refl _)) (Nat.ne_of_lt (Nat.lt_succ_self _))
  rw [List.append_nil] at run
  have rel : Vals (V.ref (s.heap.objs.size + 1) :: vs) (Value.ref (s.heap.objs.size + 1) :: us) := .cons (show L2.RelV (V.ref (s.heap.objs.size + 1)) (Value.ref (s.heap.objs.size + 1)) from rfl) r
  have bound := hb _ (Value.ref (s.heap.objs.size + 1) :: us) I2.kIn (by rw [List.append_nil, ← rel.length]; exact F.len _ _ _ _ run)
  rw [List.append_nil] at bound
  have ran := F.run _ X.stack _ _ ⟨Value.ref (s.heap.objs.size + 1) :: us, []⟩ _ _ _ E (hr.make C us []) (I2.env0.make C us []) bound rel run
  refine wpAny_call (make_map (f := f) I.kIn M.makes M.init (beq_iff_eq.mp M.fn) (codeAny_mono ran fun res s' z => ?_))
  match res, z with
  | .error err, z => exact hx pins _ _ err s' I2 z
  | .ok (.ret u), z =>
    obtain ⟨v, H', I3, rv, rfl, q⟩ := I2.after z
    exact ⟨rv, ⟨V.ref (s.heap.objs.size + 1), H', I3, rfl, q⟩⟩
theorem pe_makeS (M : Mk X.K C f) (F : FnOk X.prog X.w X.K X.mg X.base CX k f fd ps sp) (hr : Room (k + 1) X.A) (hg : Gl X x) (hm : X.mg x = some (.ref C)) (hb : Binds X.K fd ps []) (hx : ∀ σ, PassesAt CX X σ (Es σ)) (ha : PA X (e :: es) t)
    (nodebug : (x == ("__debug__" : PySem.Str)) = false := by decide) (first : starEach (e :: es) X.env = (false, eval e X.env) :: starEach es X.env := by rfl) (nost : (backTo pos (starEach es X.env)).any (·.1) = false := by rfl) :
    PE X (.Call (.Name x p) (e :: es) [] pos) (tMakeS C sp Es t) := by
  constructor
  intro pins s σ H Q I h
  refine wpAny_Call_Name_kw (ld_glob I hg hm ?_ nodebug)
  refine callWith_K (h₀ := X.base) I.ok.mod.kin M.kp ?_ first nost
  exact thn (ha.run pos pins s σ H _ I h) fun us s1 ⟨vs, H1, I1, r, q⟩ => ⟨I1.kIn, made_run M F hr hb (hx σ) I1 r q⟩
def tMethT (C : Addr) (m : PySem.Str) (sp : Sp) (Es : L2.St → XK) (ta : TE) (t : TA) : TE := fun σ H Q => tMeth C m sp [] (Es σ) ta t σ H Q
theorem pe_methT {pl : Sem Bool} (he : PE X o ta) (c : Cls X.K C) (hm : Meth X.K C m f) (F : FnOk X.prog X.w X.K X.mg X.base CX k f fd ps sp) (hr : Room k X.A) (hb : Binds X.K fd ps []) (hx : ∀ σ, PassesAt CX X σ (Es σ)) (ha : PA X (e :: es) t)
    (first : starEach (e :: es) X.env = (false, eval e X.env) :: starEach es X.env := by rfl) (nost : (backTo pos (starEach es X.env)).any (·.1) = false := by rfl)
    (text : eval (.Call (.Attribute o m apos) (e :: es) [] pos) X.env = (do
      let ov ← eval o X.env
      standAt apos.atName
      let (f, first) ← holding [ov] (getMethod ov m pl)
      callWith pos f first (backTo pos (starEach (e :: es) X.env)) (backToKw pos (keywordEach [] X.env))) := by rfl) :
    PE X (.Call (.Attribute o m apos) (e :: es) [] pos) (tMethT C m sp Es ta t) := by
  constructor
  intro pins s σ H Q I h
  refine methodCall_KW (pl := pl) ?_ text
  refine thn (he.run pins s σ H _ I h) fun u s1 ⟨y, H1, I1, rel, a, dx, fs, ey, at_, none_, q⟩ => ?_
  subst ey
  obtain rfl : u = Value.ref a := rel
  refine getmeth_ok I1 at_ c hm none_ ?_
  refine callWith_K (first := [Value.ref a]) (h₀ := X.base) I.ok.mod.kin hm.kp ?_ first nost
  refine thn (ha.run pos pins s1 σ H1 _ I1 q) fun us s2 ⟨vs, H2, I2, r, q2⟩ => ⟨I2.kIn, ?_⟩
  replace q2 : sp (V.ref a :: (vs ++ [])) H2 Q (Es σ) := q2
  rw [List.append_nil] at q2
  exact run_fnS (us := Value.ref a :: us) (vs := V.ref a :: vs) F hr hb (hx σ) I2 (.cons (show L2.RelV (V.ref a) (Value.ref a) from rfl) r) q2
end
end L2
end
section
/-! An own error whose __init__ calls its base's by super() with an f-string and keeps its place. -/
namespace PySem
namespace PlX
open PySem.W PySem.Calls PyProof.Rows PySem.HandSPX
/-! ### the text of __init__ -/
def args (p1 p2 : Pos) : Arguments := { posonlyargs := [], args := [{ arg := "self", annotation := none, pos := p1 }, { arg := "place", annotation := none, pos := p2 }], vararg := none, kwonlyargs := [], kw_defaults := [], kwarg := none, defaults := [] }
structure Ps where
  a : Pos
  b : Pos
  c : Pos
  d : Pos
  e : Pos
  f : Pos
  g : Pos
  h : Pos
  i : Pos
  j : Pos
  k : Pos
  l : Pos
  m : Pos
def say (msg : Str) (p : Ps) : Expr := .JoinedStr [.Constant (.str msg) 0 p.a, .FormattedValue (.Name "place" p.b) (-1) none p.c] p.d
def call (msg : Str) (p : Ps) : Expr := .Call (.Attribute (.Call (.Name "super" p.e) [] [] p.f) "__init__" p.g) [say msg p] [] p.h
def body (msg : Str) (p : Ps) : List Stmt := [.Expr (call msg p) p.i, .Assign [.Attribute (.Name "self" p.j) "place" p.k] (.Name "place" p.l) p.m]
/-- how the call is read -/
def Reads (msg : Str) (p : Ps) : Prop := ∀ env : Env, ∃ pl : Sem Bool, eval (call msg p) env = (do
  let ov ← attributeBase (.Call (.Name "super" p.e) [] [] p.f) "__init__" env (eval (.Call (.Name "super" p.e) [] [] p.f) env)
  standAt p.g.atName
  let (f, first) ← holding [ov] (getMethod ov "__init__" pl)
  callWith p.h f first (backTo p.h (starEach [say msg p] env)) [])
def scope : Scope := { kind := .function, names := [(PySem.Str.ofString "self", .local), (PySem.Str.ofString "place", .local), (PySem.Str.ofString "__class__", .free), (PySem.Str.ofString "super", .globalImplicit)], isGenerator := false, isCoroutine := false, more := [] }
theorem kSuper : List.lookup ("super" : Str) scope.names = some NameKind.globalImplicit := by decide +kernel
theorem kClass : List.lookup ("__class__" : Str) scope.names = some NameKind.free := by decide +kernel
theorem kSelf : List.lookup ("self" : Str) scope.names = some NameKind.local := by decide +kernel
theorem kPlace : List.lookup ("place" : Str) scope.names = some NameKind.local := by decide +kernel
/-- what the written part says of the class named nmC, at C, and of its __init__, at fI -/
structure Txt (P : Program) (K : Frag) (mg : Str → Option Value) (nmC : Str) (C fI : Addr) : Prop where
  gC : mg nmC = some (.ref C)
  cls : ∃ nm q N bs bm sn sub ab col dd k0 k1 k2 k3 k5, K.lookup C = some (excClassObj nm q C N bs bm true sn sub ab col dd k0 k1 k2 k3 k5 "ValueError.__new__") ∧ refsVE bm = true
  sa : findIn K (.ref C) "__setattr__" = some (some (.builtin "object.__setattr__"))
  ga : findIn K (.ref C) "__getattribute__" = some (some (.builtin "BaseException.__getattribute__"))
  gg : findIn K (.ref C) "__getattr__" = some none
  noN : findIn K (.ref C) "place" = some none
  iC : findIn K (.ref C) "__init__" = some (some (.ref fI))
  tC : typeIn K (.ref fI) = some (.type "function")
  kC : keepIn K (.ref C) = true
  exC : subIn K (.ref C) (.type "BaseException") = some true
  veC : subIn K (.ref C) (.type "ValueError") = some true
  tyC : typeIn K (.ref C) = some (.type "type")
  hdC : hasDictIn K C = true
  te : exmOne K (.ref C) (.ref C) = some true
  sup : ks_superIn K C C "__init__" = some (some (.builtin "ValueError.__init__"))
  opq : nsIn K cStatics "thirdparty.any" = some none
  exI : excInitIn K C veTail "ValueError.__new__" = true
  self : mroIn K C (.ref C) = some true
  sups : mg "super" = none
  top : (P.main.scope.names.lookup ("super" : Str)).isSome = false
  fn : ∃ (oc : Value) (od : Option Addr) (doc pm : Value) (an : Option Addr) (cda cc : Addr) (ct : Value) (osl : Array (Option Value)) (p1 p2 : Pos) (qual msg : Str) (ps : Ps) (ccl : Value) (cdd : Option Addr) (vs : Array Value) (ccs : Array (Option Value)) (file : Str) (tf : Tok) (cl : Value) (cld : Option Addr) (csl : Array (Option Value)),
    K.lookup fI = some ⟨oc, od, .func (ksFn "__init__" qual (args p1 p2) (body msg ps) scope .none .none doc pm an (.ref cda) ct cc), osl⟩ ∧ codeIn K (.ref cda) qual = true ∧ msg.length ≤ 100 ∧ Reads msg ps ∧
    K.lookup cda = some ⟨ccl, cdd, .fields vs, ccs⟩ ∧ vs[2]? = some (.str file tf) ∧ ((P.main.file : Str) == file) = true ∧ K.lookup cc = some ⟨cl, cld, .cell (some (.ref C)), csl⟩
/-- what stands as a place -/
def PlaceV (v : Value) : Prop := v = .none ∨ ∃ i t, v = .int i t ∧ i.natAbs.log2 < 1920
structure Made (h h' : Heap) (e C d : Addr) (v : Value) : Prop where
  keep : ∀ b o, h.get? b = some o → h'.get? b = some o
  new : h.objs.size ≤ e
  obj : ∃ oe vs, h'.get? e = some oe ∧ oe.cls = .ref C ∧ oe.dict = some d ∧ oe.data = .fields vs ∧ vs[1]? = some .none
  dbig : h.objs.size ≤ d
  dne : d ≠ e
  ns : h'.Ns1 d (fun y => if y = "place" then some v else none)
/-- what __init__ leaves of a fresh exception at x -/
structure Left (h h' : Heap) (x C dx t1 : Addr) (v : Value) : Prop where
  keep : ∀ b o, b ≠ x → h.get? b = some o → h'.get? b = some o
  obj : h'.get? x = some { cls := .ref C, dict := some dx, data := .fields #[.ref t1, .none, .none, .none, .bool false, .none] }
  dbig : h.objs.size ≤ dx
  dne : dx ≠ x
  ns : h'.Ns1 dx (fun y => if y = "place" then some v else none)
theorem ldN {M : Model} {A : Around} {E : Value → Shared → Prop} {s : Shared} {env : Env} {m : Str → Option Value} {x : Str} {pos : Pos} {v : Value} {Q : Value → Shared → Prop} (hn : s.heap.Ns env.locals m) (hv : m x = some v) (h : Q v s)
    (hk : env.scope.kind = .function := by rfl) (hl : env.kindOf x = some .local := by rfl) (hd : (x == ("__debug__" : Str)) = false := by decide) :
    wpAny M A (eval (.Name x pos) env) Q E s := wpAny_Name (wpAny_loadName_local hk hl hn hv h) hd
section
variable {prog : Program} {w : World} {A : Around} {E : Value → Shared → Prop} {R : Result → Shared → Prop} {s : Shared} {K : Frag} {mg : Str → Option Value} {C fI : Addr} {nmC : Str}
theorem say_runs {env : Env} {L : Addr} {m : Str → Option Value} {msg : Str} {p : Ps} {v : Value} {Q : Value → Shared → Prop} (hL : env.locals = L) (hn : s.heap.Ns L m) (hv : m "place" = some v) (pv : PlaceV v) (hz : msg.length ≤ 100)
    (hk : env.scope.kind = .function) (hl : env.kindOf "place" = some .local)
    (h : ∀ x t, Q x { s with toks := t }) : wpAny (model prog w) A (eval (say msg p) env) Q E s := by
  subst hL
  unfold say
  refine wpAny_JoinedStr ?_
  have e0 : evalEach [Expr.Constant (.str msg) 0 p.a, Expr.FormattedValue (.Name "place" p.b) (-1) none p.c] env = [eval (Expr.Constant (.str msg) 0 p.a) env, eval (Expr.FormattedValue (.Name "place" p.b) (-1) none p.c) env] := by first | rfl | simp [evalEach]
  rw [e0]
  have le0 : (Str.empty ++ msg).length ≤ 100 := by
    rw [Str.length_append]
    show 0 + msg.length ≤ 100
    omega
  refine wpAny_Constant_str ⟨msg, _, rfl, Nat.le_trans le0 (by rw [sizeLine_eq]; omega), ?_⟩
  refine wpAny_FormattedValue_plain (ldN hn hv ?_ hk hl (by decide))
  have fin : ∀ (y : Str) (t t' : Nat), y.length ≤ 2000 → ∃ y' t2, (Value.str y t) = .str y' t2 ∧ ((Str.empty ++ msg) ++ y').length ≤ sizeLine ∧
      Joins (model prog w) A E [] ((Str.empty ++ msg) ++ y') (fun out s₁ => out.length ≤ sizeLine ∧ Q (.str out s₁.toks) { s₁ with toks := s₁.toks + 1 }) { s with toks := t' } := fun y t t' hy => by
    have lz : ((Str.empty ++ msg) ++ y).length ≤ sizeLine := by
      rw [Str.length_append, sizeLine_eq]
      omega
    exact ⟨y, t, rfl, lz, lz, h _ _⟩
  rcases pv with rfl | ⟨i, t, rfl, hi⟩
  · exact wpAny_formatField_none (fin "None" _ _ (by decide))
  · exact wpAny_formatField_int hi (fin _ _ _ (Nat.le_trans (int_text_len_1921 hi) (by omega)))
theorem init_runs (T : Txt prog K mg nmC C fI) {x t0 : Addr} {v : Value} (pv : PlaceV v) (M : L2.Mod K mg s.heap) (hx : s.heap.get? x = some (excO C t0)) (hnx : K.lookup x = none) (hroom : A.depth < recursionLimit)
    (hq : ∀ h' tk dx t1, Left s.heap h' x C dx t1 v → R (.ok (.ret .none)) { s with heap := h', toks := tk }) :
    codeAny (model prog w) A (.call (.ref fI) ⟨[.ref x, v], []⟩) R s := by
  obtain ⟨oc, od, doc, pm, an, cda, cc, ct, osl, p1, p2, qual, msg, ps, ccl, cdd, vs, ccs, file, tf, cl, cld, csl, ho, hcd, hmsg, hrd, hcda, hvs, hfile, hcc⟩ := T.fn
  have X := M.kin
  refine ks_codeAny_call_defAt (fd := ksFn "__init__" qual (args p1 p2) (body msg ps) scope .none .none doc pm an (.ref cda) ct cc) (body := body msg ps) (binds := [("self", .ref x), ("place", v)]) hroom (X _ _ ho) rfl M.nolimit (codeRec_of X hcd) rfl
    (BindsTo.of_eq (by first | rfl | with_unfolding_all rfl)) (show ∀ y ∈ scope.names, y.2 ≠ .cell by decide +kernel)
    (fun y hy => by
      rcases List.mem_cons.mp hy with rfl | hy
      · exact kSelf
      · rcases List.mem_cons.mp hy with rfl | hy
        · exact kPlace
        · cases hy) (fun h₁ hns₁ k₁ => ?_) rfl rfl rfl
  obtain ⟨hp, g, d, tk, os⟩ := s
  have hxL : hp.objs.size ≠ x := Nat.ne_of_gt (Heap.lt_size hx)
  have lS : List.lookup ("self" : Str) ([("self", .ref x), ("place", v)] : List (Str × Value)).reverse = some (.ref x) := by first | rfl | with_unfolding_all rfl | kernel_rfl
  have lP : List.lookup ("place" : Str) ([("self", .ref x), ("place", v)] : List (Str × Value)).reverse = some v := by first | rfl | with_unfolding_all rfl | kernel_rfl
  have X₁ : K.In h₁ := X.keeps k₁
  have hx₁ := k₁ _ _ hx
  have G₁ := M.glob.keeps k₁
  obtain ⟨mb, B0, hB⟩ := M.blt
  have B₁ := B0.keeps k₁
  obtain ⟨nm, q, N, bs, bm, sn, sub, ab, col, dd, k0, k1, k2, k3, k5, hC, hbm⟩ := T.cls
  have hcl : clsIn K C = some { name := nm, bases := bs, mro := .ref C :: bm, ns := N, qualname := q, hasDict := true, slotNames := sn, subclasses := sub, abstract := ab, collection := col, hasDel := false } := by unfold clsIn; rw [hC] <;> rfl
  show PySem.wpAt _ _ _ (execs (_ :: _) _) _ _ _
  obtain ⟨pl, hpl⟩ := hrd (ksEnv qual scope hp.objs.size fI (.ref cda) cc)
  refine ks_wpAt_execs_cons (ks_wpAt_Expr_any (ks_wpAt_MethodCall (pl := pl) ?_ hpl))
  refine ks_wpAt_super_base (env := ksEnv qual scope hp.objs.size fI (.ref cda) cc) kSuper kClass (by decide) rfl (X₁ _ _ ho) rfl rfl rfl (X₁ _ _ hcda) rfl hvs hfile T.top ?_
  have hC₁ := X₁ _ _ hC
  refine ks_loadName_global rfl kSuper (loadGlobal_builtin (env := ksEnv qual scope hp.objs.size fI (.ref cda) cc) G₁ T.sups B₁ ((hB _ (by decide +kernel)).trans PyProof.Rows.Boot.«super») ⟨rfl, ?_⟩)
  refine wpAny_loadName_free (c := cc) rfl kClass rfl ⟨_, X₁ _ _ hcc, rfl⟩ ?_
  refine wpAny_loadName_local rfl kSelf hns₁ lS ?_
  refine ks_wpAny_isType_cls hC₁ rfl ⟨rfl, ?_⟩
  refine ks_wpAny_call_super hC₁ rfl hx₁ rfl (fun c e => by cases e) (looks_mroIn X₁ T.self) (fun h₂ e₂ k₂ => ?_)
  have X0 : K.In (hideAll hp [x]) := fun a o e => hideAll_get [x] (X a o e) fun z => by
    rw [List.mem_singleton.mp z] at e
    rw [show K.lookup x = some o from e] at hnx
    cases hnx
  have F1 : Fr (hideAll hp [x]) hp.objs.size h₁ _ := ⟨hns₁, fun b o e => k₁ b o (of_hideAll _ e), Nat.le_of_eq (hideAll_size _ _)⟩
  have N1 : News (hideAll hp [x]) hp.objs.size h₁ [(x, excO C t0)] := fun p hm => by
    rw [List.mem_singleton.mp hm]
    exact ⟨hx₁, Ne.symm hxL, hideAll_none _ (List.mem_singleton.mpr rfl)⟩
  obtain ⟨F2, N2, lt2⟩ := ks_newsPush (s := ⟨h₁, g, d, tk + 2, os⟩) F1 N1 rfl e₂ k₂
  refine kxs_method kxs_ValueError F2 X0 N2 (List.mem_cons_self ..) (odx := none) ⟨k₂ _ _ hx₁, rfl, rfl, trivial⟩ T.opq T.sup T.veC (by decide +kernel) (fun u h₃ F3 N3 lt3 => ?_)
  refine kxs_callWith1 N3 (List.mem_cons_self ..) ?_
  refine args_cons (say_runs (L := hp.objs.size) rfl F3.ns lP pv hmsg rfl kPlace fun y t => args_nil ?_)
  refine ⟨kxs_at N3 (List.mem_cons_self ..), ?_⟩
  have ltx : x < h₁.objs.size := lt2 (x, excO C t0) (List.mem_singleton.mpr rfl)
  have ltu : x < u := lt3 (x, excO C t0) (.tail _ (List.mem_singleton.mpr rfl))
  have U : UpdF x (excObj C t0 none .none) [(u, kxs_mw "ValueError.__init__" x), (h₁.objs.size, ks_superObj C x C), (x, excO C t0)] (fun o => [(u, kxs_mw "ValueError.__init__" x), (h₁.objs.size, ks_superObj C x C), (x, o)]) :=
    .tail (Nat.ne_of_gt ltu) (.tail (Nat.ne_of_gt ltx) (.head fun p hp => nomatch hp))
  refine kxs_call F3 X0 N3 F.excBase_ValueError T.exI (List.mem_cons_self ..) U (show 1 ≤ sizeLine by rw [sizeLine_eq]; omega) (fun t1 h₄ F4 N4 lt4 => ?_)
  have hx₄ : h₄.get? x = some (excObj C t1 none .none) := (N4 (x, excObj C t1 none .none) (.tail _ (.tail _ (.tail _ (List.mem_singleton.mpr rfl))))).1
  have X₄ : K.In h₄ := X0.keeps F4.keep
  show PySem.wpAt _ _ _ (execs (_ :: _) _) _ _ _
  refine ks_wpAt_execs_cons (ks_wpAt_Assign_Attr (wpAt_of_wpAny ?_))
  have n4 : h₄.Ns (ksEnv qual scope hp.objs.size fI (.ref cda) cc).locals (fun y => List.lookup y ([("self", .ref x), ("place", v)] : List (Str × Value)).reverse) := F4.ns
  show wpAny _ _ (eval (.Name "place" ps.l) (ksEnv qual scope hp.objs.size fI (.ref cda) cc)) _ _ ⟨h₄, g, d, _, os⟩
  refine ldN n4 lP ?_ rfl kPlace (by decide)
  show wpAny _ _ (eval (.Name "self" ps.j) (ksEnv qual scope hp.objs.size fI (.ref cda) cc)) _ _ ⟨h₄, g, d, _, os⟩
  refine ldN n4 lS ?_ rfl kSelf (by decide)
  refine set_plain X₄ (ox := excObj C t1 none .none) (od := none) ⟨hx₄, rfl, rfl, trivial⟩ T.sa ?_
  refine exc_osa X₄ hx₄ hcl (show refsVE (.ref C :: bm) = true from hbm) rfl T.noN (fun h₅ tk₅ dx k₅ dn dne hx₅ hn₅ => ?_)
  show PySem.wpAt _ _ _ (execs [] _) _ _ _
  refine wpAt_of_wpAny (wpAny_execs_nil (hq h₅ tk₅ dx t1 ⟨fun b o hb e => ?_, hx₅, ?_, dne, hn₅⟩))
  · exact k₅ b o hb (F4.keep b o (hideAll_get [x] e fun z => hb (List.mem_singleton.mp z)))
  · exact Nat.le_of_lt (Nat.lt_of_lt_of_le F4.ns.lt dn)
theorem made_runs (T : Txt prog K mg nmC C fI) {v : Value} (pv : PlaceV v) (M : L2.Mod K mg s.heap) (hroom : A.depth + 1 < recursionLimit)
    (hq : ∀ h' tk e d, Made s.heap h' e C d v → R (.ok (.ret (.ref e))) { s with heap := h', toks := tk }) :
    codeAny (model prog w) A (.call (.ref C) ⟨[v], []⟩) R s := by
  obtain ⟨nm, q, N, bs, bm, sn, sub, ab, col, dd, k0, k1, k2, k3, k5, hC, hbm⟩ := T.cls
  obtain ⟨hp, g, dr, tk, os⟩ := s
  have X := M.kin
  have k : ∀ b o, hp.get? b = some o → ((hp.push (kdv_tup [v])).push (excO C hp.objs.size)).get? b = some o := fun b o e => Heap.get?_push_of_some _ (Heap.get?_push_of_some _ e)
  have hget : ((hp.push (kdv_tup [v])).push (excO C hp.objs.size)).get? (hp.objs.size + 1) = some (excO C hp.objs.size) := by heap_get
  have hnx : K.lookup (hp.objs.size + 1) = none := by
    cases e : K.lookup (hp.objs.size + 1) with
    | none => rfl
    | some o => exact absurd (Nat.lt_of_succ_lt (Heap.lt_size (X _ _ e))) (Nat.lt_irrefl _)
  have M2 : L2.Mod K mg ((hp.push (kdv_tup [v])).push (excO C hp.objs.size)) := ⟨X.keeps k, M.glob.keeps k, M.blt.imp fun mb z => ⟨z.1.keeps k, z.2⟩, M.nolimit.keeps k⟩
  refine call_own F.excBase_ValueError (fun Y => refsVE_contains Y bm hbm) (X _ _ hC) (looks_findIn X T.iC) (fun self => bind_fn X self T.tC) (show 1 ≤ sizeLine by rw [sizeLine_eq]; omega) ?_
  refine init_runs (s := ⟨(hp.push (kdv_tup [v])).push (excO C hp.objs.size), g, dr, tk, os⟩) T pv M2 hget hnx hroom fun h' tk' dx t1 L => ?_
  refine ⟨rfl, hq h' tk' (hp.objs.size + 1) dx ⟨fun b o e => L.keep b o (Nat.ne_of_lt (Nat.lt_succ_of_lt (Heap.lt_size e))) (k b o e), Nat.le_succ _, ⟨_, _, L.obj, rfl, rfl, rfl, rfl⟩, Nat.le_trans ?_ L.dbig, L.dne, L.ns⟩⟩
  show hp.objs.size ≤ ((hp.push (kdv_tup [v])).push (excO C hp.objs.size)).objs.size
  rw [Heap.size_push, Heap.size_push]
  omega
end
end PlX
end PySem
end
section
/-! The hand layer's words for errors that keep a place. -/
namespace L2
open PySem PySem.Spec PyProof.Rows
/-- the field that the error keeps, and no other -/
theorem place_fields {v : V} {u : Value} (r : RelV v u) (f : Str) : RelO ([(("place" : Str), v)].lookup f) (if f = "place" then some u else none) := by
  rcases Classical.em (f = "place") with rfl | h
  · rw [if_pos rfl]
    have z : [(("place" : Str), v)].lookup ("place" : Str) = some v := by simp [List.lookup]
    rw [z]; exact r
  · rw [if_neg h]
    have z0 : (f == ("place" : Str)) = false := by simpa using h
    have z : [(("place" : Str), v)].lookup f = none := by simp [List.lookup, z0]
    rw [z]; exact trivial
/-- what may be a place -/
def PlaceW (v : V) : Prop := v = .non ∨ ∃ i : Int, v = .int i ∧ i.natAbs.log2 < 1920
theorem placeW_val {v : V} {u : Value} (h : PlaceW v) (r : RelV v u) : PySem.PlX.PlaceV u := by
  rcases h with rfl | ⟨i, rfl, hi⟩
  · obtain rfl : u = .none := r
    exact .inl rfl
  · obtain ⟨t, rfl⟩ := r
    exact .inr ⟨i, t, rfl, hi⟩
section
variable {X : Cx} {C fI : Addr} {nmC : Str}
/-- C(e) -/
def tMkPl (C : Addr) (ta : TA) : St → Hp → XK → Prop := fun σ H Q => ta σ H fun vs H1 => ∃ v, vs = [v] ∧ PlaceW v ∧ ∀ d, H1 d = none → Q (.ref C) (some d) (upd H1 d (.xd [(("place" : Str), v)]))
theorem pmk_pl {a : Expr} {ta : TA} {p pos : Pos} {k : Nat} (T : PySem.PlX.Txt X.prog X.K X.mg nmC C fI) (hr : Room (k + 1) X.A) (ha : PA X [a] ta) (hg : Gl X nmC) (hdb : (nmC == ("__debug__" : Str)) = false := by decide)
    (he : starEach (a :: []) X.env = (false, eval a X.env) :: starEach [] X.env := by rfl) (hpl : (backTo pos (starEach [] X.env)).any (·.1) = false := by rfl) :
    PMk X (.Call (.Name nmC p) [a] [] pos) (tMkPl C ta) := fun pins s σ H Q I h => by
  refine wpAny_Call_Name_kw (ld_glob I hg T.gC ?_ hdb)
  refine PySem.W.callWith_K (h₀ := X.base) I.ok.mod.kin T.kC (thn (ha.run pos pins s σ H _ I h) fun us s1 hh => ?_) he hpl
  obtain ⟨vs, H1, I1, r1, v, ev, hv, q1⟩ := hh
  subst ev
  refine ⟨I1.kIn, ?_⟩
  cases r1 with
  | @cons _ u0 _ us' rv rn =>
    cases rn
    have M : Mod X.K X.mg s1.heap := ⟨I1.kIn, I1.ok.mod.glob.keeps I1.bk, I1.ok.mod.blt.imp fun mb z => ⟨z.1.keeps I1.bk, z.2⟩, I1.nolimit⟩
    show wpAny _ _ (call (.ref C) [u0]) _ _ _
    obtain ⟨hp, g, dr, tk, os⟩ := s1
    refine wpAny_call (PySem.PlX.made_runs T (placeW_val hv rv) M (by have := hr.dp; omega) fun h' tk' e d Z => ?_)
    show MkP X pins σ Q (.ref e) ⟨h', g, dr, tk', os⟩
    obtain ⟨oe, fv, hoe, hc, hd, hdat, hnil⟩ := Z.obj
    obtain ⟨G, same, gone⟩ := restrict h' fun b => decide (b ≠ e)
    have gs : ∀ b, b ≠ e → G.get? b = h'.get? b := fun b hb => same b (decide_eq_true hb)
    have ge : G.get? e = none := gone e (decide_eq_false fun z => z rfl)
    have keep : ∀ b o, hp.get? b = some o → G.get? b = some o := fun b o q => by
      rw [gs b (Nat.ne_of_lt (Nat.lt_of_lt_of_le (Heap.lt_size q) Z.new))]
      exact Z.keep b o q
    have dict : ObjOk X.prog X.w (upd H1 d (.xd [(("place" : Str), v)])) G d (.xd [(("place" : Str), v)]) :=
      ⟨_, Z.ns.at (fun o q => (gs d Z.dne).trans q), fun f => place_fields rv f⟩
    have J : Inv X pins σ (upd H1 d (.xd [(("place" : Str), v)])) ⟨G, g, dr, tk', os⟩ := I1.laid (t' := tk') keep Z.dbig dict
    have ne : (upd H1 d (.xd [(("place" : Str), v)])) e = none := by
      rw [upd_ne (Ne.symm Z.dne)]; exact I1.hok.fresh Z.new
    refine ⟨e, oe, fv, ⟨G, g, dr, tk', os⟩, _, .ref C, some d, rfl, J, fun b o q => ?_, ge, hoe, ⟨hc, hd⟩, hdat, hnil, ne, rfl, I1.bare, raises_own T.exC T.tyC, q1 d (I1.hok.fresh Z.dbig)⟩
    have nb : b ≠ e := fun z => by
      rw [z] at q
      rw [show G.get? e = some o from q] at ge
      cases ge
    exact (gs b nb).symm.trans q
end
theorem xfc_of {P : Program} {K : PySem.W.Frag} {mg : Str → Option Value} {nmC : Str} {C fI : Addr} (T : PySem.PlX.Txt P K mg nmC C fI) : XfC K C := ⟨T.ga, T.gg, T.exC, T.hdC⟩
end L2
end
section
/-! The same rules with the written part named: for a comprehension's block. -/
namespace L2
open PySem PySem.Spec PyProof.Rows
section
variable {X : Cx} {K : PySem.W.Frag}
theorem ix_tupK (hK : X.K = K) : IxR X (rIxT K) := hK ▸ ix_tup
theorem ix_listK (hK : X.K = K) : IxR X (rIxL K) := hK ▸ ix_list
theorem pt_tru {a : Expr} {ta : TE} (hK : X.K = K) (ha : PE X a ta) (he : ∀ whole, isTrue a X.env whole = (do let v ← whole; standAt a.pos; holding [v] (truthy v))) : PT X a (tTru K ta) := by
  subst hK
  exact pt_truth ha he
theorem pi_listK {tg l : Expr} {tl : TE} (hK : X.K = K) (hl : PE X l tl) : PI X tg l (iList K tl) := by
  subst hK
  exact pi_list hl
theorem pi_tupK {tg l : Expr} {tl : TE} (hK : X.K = K) (hl : PE X l tl) : PI X tg l (iTup K tl) := by
  subst hK
  exact pi_tup hl
theorem pg_tupK {es : List Expr} {k : Nat} {t : TGs} {n : Nat} {pos : Pos} (hK : X.K = K) (hc : X.calm = true) (h : PGs X es t) (hn : (assignEach es X.env).length = n := by rfl) (hst : (assignEach es X.env).findIdx? (·.1) = none := by rfl) : PG X (.Tuple es k pos) (gTup K n t) := by
  subst hK
  exact pg_tup hc h hn hst
theorem op_inQK {P : Program} {w : World} (hP : X.prog = P) (hw : X.w = w) : OpR X (compareOp .In) (MX.rInQ P w false) := by
  subst hP hw
  exact MX.op_inQ
theorem op_notInQK {P : Program} {w : World} (hP : X.prog = P) (hw : X.w = w) : OpR X (compareOp .NotIn) (MX.rInQ P w true) := by
  subst hP hw
  exact MX.op_notInQ
theorem op_in_seqK (hK : X.K = K) : OpR X (compareOp .In) (rIn K false) := by
  subst hK
  exact op_in_seq
theorem op_notIn_seqK (hK : X.K = K) : OpR X (compareOp .NotIn) (rIn K true) := by
  subst hK
  exact op_notIn_seq
end
end L2
end
section
/-! Own instances' truth and +, math.lcm, xs[i] op= e. -/
namespace L2
open PySem PySem.Spec PyProof.Rows PySem.W
/-- a __bool__ that always says the same -/
def spSays (b : Bool) : Sp := fun vs H Q _ => (∃ p : Addr, vs = [V.ref p]) ∧ Q (.bl b) H
def SaysB (P : Program) (w : World) (K : PySem.W.Frag) (mg : PySem.Str → Option Value) (base : Heap) (C : Addr) (b : Bool) : Prop :=
  ∃ (f : Addr) (fd : FuncData), findIn K (.ref C) "__bool__" = some (some (.ref f)) ∧ isFn K (.ref f) = true ∧ FnOk P w K mg base CX0 1 f fd ["self"] (spSays b) ∧ Binds K fd ["self"] []
section
variable {X : Cx} {pins : List (Addr × Obj)} {σ : L2.St} {H : Hp} {s : Shared} {A : Around}
/-- instances of classes of which B tells what they are as truth -/
def rSays (B : Addr → Bool → Prop) : V → Hp → (Bool → Hp → Prop) → Prop := fun x H Q => ∃ (p C dx : Addr) (fs : List (PySem.Str × V)) (b : Bool), x = .ref p ∧ H p = some (.ins C dx fs) ∧ B C b ∧ Q b H
theorem truth_in {B : Addr → Bool → Prop} {x : V} {v : Value} {Q : Bool → Hp → Prop} (hB : ∀ C b, B C b → SaysB X.prog X.w X.K X.mg X.base C b) (sb : Sub X 1 A) (hx : Passes CX0 X E0) (I : Inv X pins σ H s) (rx : RelV x v) (h : rSays B x H Q) :
    wpAny (model X.prog X.w) A (truthy v) (TP X pins σ Q) X.xe s := by
  obtain ⟨p, C, dx, fs, b, rfl, hp, says, q⟩ := h
  obtain rfl : v = Value.ref p := rx
  obtain ⟨f, fd, find, isf, F, hb⟩ := hB C b says
  obtain ⟨o, od, at_⟩ := inst_at I hp
  obtain ⟨m, fr⟩ := I.fr
  refine truthy_K fr I.ok.mod.kin at_ find isf ?_
  refine wpAny_mono (run_sub (Q := fun v H' => v = .bl b ∧ Q b H') sb F hb (fun pins H s e s' => hx pins σ H s e s') I (.cons (show L2.RelV (V.ref p) (Value.ref p) from rfl) .nil) ⟨⟨p, rfl⟩, rfl, q⟩) (fun v s1 ⟨y, H1, I1, rel, ey, z⟩ => ?_) fun _ _ z => z
  subst ey
  obtain rfl : v = Value.bool b := rel
  exact ⟨H1, I1, z⟩
theorem tru_says {B : Addr → Bool → Prop} (hB : ∀ C b, B C b → SaysB X.prog X.w X.K X.mg X.base C b) (hr : Room 1 X.A) (hx : Passes CX0 X E0) : TruR X (rSays B) :=
  fun pins s σ H x v Q I rx h => truth_in hB ⟨hr, rfl⟩ hx I rx h
def tSays (B : Addr → Bool → Prop) (ta : TE) : TT := fun σ H Q => ta σ H fun x H' => rSays B x H' Q
theorem pt_says {a : Expr} {ta : TE} {B : Addr → Bool → Prop} (hB : ∀ C b, B C b → SaysB X.prog X.w X.K X.mg X.base C b) (hr : Room 1 X.A) (hx : Passes CX0 X E0) (ha : PE X a ta) (he : ∀ whole, isTrue a X.env whole = (do let v ← whole; standAt a.pos; holding [v] (truthy v)) := by intro _; rfl) :
    PT X a (tSays B ta) := by
  refine ⟨fun pins s σ H Q I h => isTrue_plain (thn (ha.run pins s σ H _ I h) fun v s1 z => ?_) (he _)⟩
  obtain ⟨x, H1, I1, r1, q1⟩ := z
  exact tru_says hB hr hx pins s1 σ H1 x v Q I1 r1 q1
/-- bool(o) -/
def rBoolOf (B : Addr → Bool → Prop) : List V → Hp → VK → Prop := fun xs H Q => ∃ x : V, xs = [x] ∧ rSays B x H fun b H' => Q (.bl b) H'
theorem new_bool {prog : Program} {w : World} {x : Value} : MeetsIn prog w (Builtin.«bool.__new__» ⟨[.type "bool", x], []⟩) (fun A R s => wpAny (model prog w) A.in1 (truthy x) (fun b s' => R (.ok (.ret (.bool b))) s') (fun e s' => R (.error e) s') s) := by
  intro A R s h
  unfold Builtin.«bool.__new__»
  refine wpAny_bind (m := isType (.type "bool")) (wpAny_of_eq (a := true) rfl ?_)
  rw [if_neg (show ¬ (!true) = true by decide)]
  refine wpAny_bind (wpAny_of_eq F.conv_sub_bool ?_)
  rw [if_neg (show ¬ (!true) = true by decide)]
  refine wpAny_bind (m := someArgs "bool" 0 1 _) (wpAny_of_eq (a := [x]) rfl ?_)
  dsimp only
  exact wpAny_bind (wpAny_mono h (fun b s' z => wpAny_pure z) fun _ _ z => z)
theorem call_boolOwn {B : Addr → Bool → Prop} (hB : ∀ C b, B C b → SaysB X.prog X.w X.K X.mg X.base C b) (hr : Room 3 X.A) (hx : Passes CX0 X E0) : CallR X (.type "bool") (rBoolOf B) := by
  intro pins s σ H xs us Q I r h
  obtain ⟨x, rfl, h⟩ := h
  match us, r with
  | [v], .cons rx .nil =>
    refine callType_newIn F.called_bool F.newNe_bool (F.typeCall_bool_1 v) (F.newCall_bool_1 v) (fun obj => F.args_object_init_2 obj v) F.entry_bool_new new_bool ?_
    refine wpAny_mono (truth_in hB ⟨hr.in1.in1, rfl⟩ hx I rx h) (fun b s' ⟨H', I', q⟩ => ?_) fun _ _ z => z
    exact ⟨PySem.typeIs_bool _ _, .bl b, H', I', rfl, q⟩
/-- lcm(a, b) -/
def rLcm : List V → Hp → VK → Prop := fun vs H Q => ∃ a b : Int, vs = [.int a, .int b] ∧ a.natAbs < 2 ^ 64 ∧ b.natAbs < 2 ^ 64 ∧ Q (.int ((Nat.lcm a.natAbs b.natAbs : Nat) : Int)) H
theorem cr_lcm : CallR X (.builtin "math.lcm") rLcm := by
  intro pins s σ H vs us Q I r h
  obtain ⟨a, b, rfl, ha, hb, q⟩ := h
  obtain ⟨t, u, rfl⟩ := Vals.int2 r
  exact PySem.W.mc_lcm ha hb fun _ => ⟨.int _, H, I.tok _, ⟨_, rfl⟩, q⟩
/-- xs[i] read for xs[i] op= e -/
def rAt0 (K : PySem.W.Frag) : V → V → Hp → VK → Prop := fun x y H Q => ∃ (p : Addr) (xs : List V) (i : Nat) (v : V), x = .ref p ∧ y = .int i ∧ SqL K H p xs ∧ xs[i]? = some v ∧ Q v H
theorem pget_list : PGet X (rAt0 X.K) := by
  intro pins s σ H o i ov iv Q I ro ri h
  obtain ⟨p, xs, k, v, rfl, rfl, hs, hv, q⟩ := h
  obtain rfl : ov = Value.ref p := ro
  obtain ⟨t, rfl⟩ := ri
  obtain ⟨its, r, pl, hz⟩ := I.list hs
  obtain ⟨u, hu, ru⟩ := r.get hv
  have lt : k < its.length := (List.getElem?_eq_some_iff.mp hu).1
  have l := r.length
  have l63 := line63
  exact getItem_listL pl.isList (Int.natCast_nonneg k) (by omega) (by rw [Int.toNat_natCast]; exact hu) ⟨v, H, I, ru, q⟩
/-- o + p of instances of one class with its own + -/
def rAddOwn (C : Addr) (sp : Sp) (E : XK) : R2 := fun x y H Q => ∃ (p dp : Addr) (fp : List (PySem.Str × V)) (q dq : Addr) (fq : List (PySem.Str × V)), x = .ref p ∧ y = .ref q ∧ H p = some (.ins C dp fp) ∧ H q = some (.ins C dq fq) ∧
  sp [.ref p, .ref q] H (fun v H' => ∃ r : Addr, v = .ref r ∧ Q v H') E
structure AddTxt (K : PySem.W.Frag) (C f : Addr) : Prop where
  self : selfFirst K C = true
  find : findIn K (.ref C) "__add__" = some (some (.ref f))
  fn : isFn K (.ref f) = true
theorem op_addOwn {CX : CXT} {k : Nat} {f C : Addr} {fd : FuncData} {ps : List PySem.Str} {sp : Sp} {E : XK} (T : AddTxt X.K C f) (F : FnOk X.prog X.w X.K X.mg X.base CX k f fd ps sp) (hb : Binds X.K fd ps []) (hr : Room k X.A) (hx : Passes CX X E) : OpR X (binaryOp .Add) (rAddOwn C sp E) := by
  intro pins s σ H x y v u Q I rx ry h
  obtain ⟨p, dp, fp, q, dq, fq, rfl, rfl, hp, hq, run⟩ := h
  obtain rfl : v = Value.ref p := rx
  obtain rfl : u = Value.ref q := ry
  obtain ⟨o, od, at_⟩ := inst_at I hp
  obtain ⟨o2, od2, at2⟩ := inst_at I hq
  obtain ⟨m, fr⟩ := I.fr
  refine binop_K (op := .Add) fr I.ok.mod.kin at_ at2.type T.self T.find T.fn ?_
  refine wpAny_mono (run_sub ⟨hr, rfl⟩ F hb (fun pins H s e s' => hx pins σ H s e s') I (.cons (show L2.RelV (V.ref p) (Value.ref p) from rfl) (.cons (show L2.RelV (V.ref q) (Value.ref q) from rfl) .nil)) run) (fun v s1 ⟨y, H1, I1, rel, r, ey, z⟩ => ?_) fun _ _ z => z
  subst ey
  obtain rfl : v = Value.ref r := rel
  exact ⟨.ref r, H1, I1, rfl, z⟩
end
end L2
end
section
/-! not o, by an own __bool__, as a value. -/
namespace L2
open PySem PySem.Spec PyProof.Rows PySem.W
def tNotSays (B : Addr → Bool → Prop) (ta : TE) : TE := fun σ H Q => ta σ H fun x H' => rSays B x H' fun b H2 => Q (.bl (!b)) H2
theorem pe_notSays {X : Cx} {a : Expr} {ta : TE} {pos : Pos} {B : Addr → Bool → Prop} (hB : ∀ C b, B C b → SaysB X.prog X.w X.K X.mg X.base C b) (hr : Room 1 X.A) (hx : Passes CX0 X E0) (ha : PE X a ta) : PE X (.UnaryOp .Not a pos) (tNotSays B ta) := by
  constructor
  intro pins s σ H Q I h
  refine UnaryOp_ (thn (ha.run pins s σ H _ I h) fun v s1 z => ?_)
  obtain ⟨x, H1, I1, r1, q1⟩ := z
  refine not_of (thn (tru_says hB hr hx pins s1 σ H1 x v _ I1 r1 q1) fun b s2 z => ?_)
  obtain ⟨H2, I2, q2⟩ := z
  exact ⟨.bl (!b), H2, I2, rfl, q2⟩
end L2
end
section
/-! Deals: the numbers of lanes. -/
namespace KD
open PySem L2
def top (i : Nat) : Stmt := PySem.Challenge.pw_allbrokers_k50_whole_moves.main.body.getD i (.Pass ⟨0, 0, 0, 0⟩)
section
variable {K : PySem.W.Frag} {ta tv : TE} {f : Str} {t u : TS} {D : Ends} {σ : L2.St} {H : Hp}
theorem into_fld (h : tv σ H fun y H1 => ta σ H1 fun x H2 => ∃ a C dx fs, x = .ref a ∧ H2 a = some (.ins C dx fs) ∧ Cls K C ∧ NoAttr K C f ∧ fs.length < 1000 ∧ u D σ (upd H2 a (.ins C dx (putF f y fs)))) : tSeq (sFld K ta tv f) u D σ H := h
theorem last_fld (h : tv σ H fun y H1 => ta σ H1 fun x H2 => ∃ a C dx fs, x = .ref a ∧ H2 a = some (.ins C dx fs) ∧ Cls K C ∧ NoAttr K C f ∧ fs.length < 1000 ∧ D.nx σ (upd H2 a (.ins C dx (putF f y fs)))) : sFld K ta tv f D σ H := h
theorem into (h : t { D with nx := u D } σ H) : tSeq t u D σ H := h
end
/-- over a dict's values, the dict locked -/
theorem for_vals {d : Addr} {o : Obj} {kvs : List (Key × V)} {g : TG} {tb : TS} {D : Ends} {σ : L2.St} {H : Hp} (Pv : Nat → L2.St → Hp → Prop) (h0 : Pv 0 σ H) (hl : ∀ i σ H, i ≤ kvs.length → Pv i σ H → H d = some (.frz o (.dK kvs)))
    (hs : ∀ i k x σ H, kvs[i]? = some (k, x) → Pv i σ H → g x σ H fun σ2 H2 => tb { D with nx := Pv (i + 1), ct := Pv (i + 1), bk := D.nx } σ2 H2) (hd : ∀ σ H, Pv kvs.length σ H → D.nx σ H) :
    ∃ W : Nat → Nat → L2.St → Hp → Prop, (∃ m, W 0 m σ H) ∧ ∀ i m σ H, W i m σ H →
      ((Itd d o kvs).stop i H ∧ D.nx σ H) ∨ ((Itd d o kvs).go i H ∧ ∃ N : L2.St → Hp → Prop, (∀ σ' H', N σ' H' → ∃ m', m' < m ∧ W (i + 1) m' σ' H') ∧ ∀ x H', (Itd d o kvs).yld i H x H' → g x σ H' fun σ2 H2 => tb { D with nx := N, ct := N, bk := D.nx } σ2 H2) := by
  refine ⟨fun i m σ H => m = kvs.length - i ∧ i ≤ kvs.length ∧ Pv i σ H, ⟨kvs.length, by simp, Nat.zero_le _, h0⟩, ?_⟩
  rintro i m σ H ⟨rfl, hi, p⟩
  have q := hl i σ H hi p
  by_cases hlt : i < kvs.length
  · refine .inr ⟨⟨q, hlt⟩, Pv (i + 1), fun σ' H' p' => ⟨kvs.length - (i + 1), by omega, rfl, hlt, p'⟩, fun x H' y => ?_⟩
    obtain ⟨e, k, y⟩ := y
    subst e
    exact hs i k x σ _ y p
  · have e : i = kvs.length := by omega
    subst e
    exact .inl ⟨⟨q, Nat.le_refl _⟩, hd σ H p⟩
/-- how many a dict of numbers tells -/
def numOf (kvs : List (Key × V)) (r : Str) : Int := match valV kvs (.inr r) with
  | some (.int n) => n
  | _ => 0
def AllInt (kvs : List (Key × V)) : Prop := ∀ k v, valV kvs k = some v → ∃ n : Int, v = .int n
def more1 (kvs : List (Key × V)) (r : Str) : List (Key × V) := putK kvs (.inr r) (.int (numOf kvs r + 1))
theorem AllInt.more1 {kvs : List (Key × V)} (h : AllInt kvs) (r : Str) : AllInt (more1 kvs r) := by
  intro k v e
  unfold KD.more1 at e
  rw [valV_put] at e
  split at e
  · exact ⟨_, (Option.some.inj e).symm⟩
  · exact h k v e
theorem getD_num {kvs : List (Key × V)} (h : AllInt kvs) (r : Str) : (valV kvs (.inr r)).getD (.int 0) = .int (numOf kvs r) := by
  unfold numOf
  cases e : valV kvs (.inr r) with
  | none => rfl
  | some v => obtain ⟨n, rfl⟩ := h _ _ e; rfl
/-- the numbers of lanes, by readers -/
def loadsV : List Str → List (Key × V) := fun rs => rs.foldl more1 []
theorem loadsV_snoc (rs : List Str) (r : Str) : loadsV (rs ++ [r]) = more1 (loadsV rs) r := by unfold loadsV; rw [List.foldl_append]; rfl
theorem allInt_foldl : ∀ (rs : List Str) (kvs : List (Key × V)), AllInt kvs → AllInt (rs.foldl more1 kvs)
  | [], _, h => h
  | r :: rs, kvs, h => allInt_foldl rs _ (h.more1 r)
theorem allInt_loads (rs : List Str) : AllInt (loadsV rs) := allInt_foldl rs [] (fun k v e => by cases e)
theorem loads_len : ∀ (rs : List Str) (kvs : List (Key × V)), (rs.foldl more1 kvs).length ≤ kvs.length + rs.length
  | [], _ => Nat.le_refl _
  | r :: rs, kvs => by
    have a := loads_len rs (more1 kvs r)
    have b : (more1 kvs r).length ≤ kvs.length + 1 := length_putK kvs _ _
    rw [List.foldl_cons, List.length_cons]; omega
/-- a deal: lanes and their readers -/
def dealV (ds : List (Str × Str)) : List (Key × V) := ds.map fun d => (.inr d.1, .str d.2)
def made' {H : Hp} {p : Addr} {o : HO} (h : H p = none) : Same H (upd H p o) := fun b u e => by rw [upd_ne (ne_of_none e h)]; exact e
theorem put_in {H H' : Hp} {p : Addr} {o : HO} (e : Same H H') (h : H p = none) : Same H (upd H' p o) := fun b u z => by rw [upd_ne (ne_of_none z h)]; exact e _ _ z
def spLoads : Sp := fun vs H Q _ => ∃ (p : Addr) (ds : List (Str × Str)), vs = [.ref p] ∧ H p = some (.dK (dealV ds)) ∧ ds.length ≤ 60 ∧
  ∀ H' L, Same H H' → H L = none → H' L = some (.dK (loadsV (ds.map (·.2)))) → Q (.ref L) H'
section
variable {P : Program} {w : World} {K : PySem.W.Frag} {mg : Str → Option Value} {base : Heap}
abbrev sLoads : Stmt := top 25
theorem scLoads : FnScope ["deal", "loads", "reader"] ["deal"] (defScope sLoads) := ⟨rfl, rfl, rfl, by decide +kernel, rfl, by decide +kernel, by decide +kernel⟩
theorem ok_loads {f : Addr} {fd : FuncData} (F : Fun K "loads_of" "loads_of" sLoads f fd) : FnOk P w K mg base CX0 2 f fd ["deal"] spLoads := by
  refine F.ok scLoads (fun vs H Q E h => ?_) (fun cdv A outer s H vs Q E hr h => ?_)
  · obtain ⟨p, ds, rfl, _⟩ := h
    rfl
  · obtain ⟨p, ds, rfl, hp, few, k⟩ := h
    have nd := scLoads.nd
    have hu1 : _ < cLine := hr.in1.units0
    refine ⟨_, (pss_cons (ps_set (i := 1) nd rfl (Or.inl rfl) (pe_dnewK))
      (pss_cons (ps_lock (ps_for PassesOwn.never rfl (pi_values (pv 0)) (pg_name (i := 2) nd rfl (Or.inl rfl))
        (pss_one (ps_dput hu1 (pv 1) (pv 2) (pe_op op_add (pe_dget2 hu1 (pv 1) (pv 2) pe_int ⟨by rfl, by rfl, by rfl, by rfl⟩) pe_int) rfl))))
      (pss_one (ps_ret (pv 1))))), ?_⟩
    refine fun L nL => ?_
    generalize hG : upd H L (.dK []) = H1
    have hL : H1 L = some (.dK []) := by rw [← hG, upd_same]
    have e1 : Same H H1 := by
      rw [← hG]
      exact made' nL
    have hp1 := e1 _ _ hp
    have ne : L ≠ p := fun q => by rw [q, hp] at nL; cases nL
    refine ⟨p, _, hp1, trivial, fun od => ?_⟩
    refine ⟨_, rfl, p, od, _, rfl, upd_same, ?_⟩
    refine for_vals (fun i σ H' => (∃ y, σ = [some (.ref p), some (.ref L), y]) ∧ H' p = some (.frz od (.dK (dealV ds))) ∧ H' L = some (.dK (loadsV ((ds.take i).map (·.2)))) ∧ ∀ b o, H b = some o → b ≠ p → H' b = some o) ⟨⟨_, rfl⟩, upd_same, by rw [upd_ne ne]; exact hL, fun b o z n => by rw [upd_ne n]; exact e1 _ _ z⟩ (fun i σ H' _ z => z.2.1) ?_ ?_
    · rintro i k x σ H' hi ⟨⟨y, rfl⟩, z1, z2, z3⟩
      obtain ⟨d, hd, rfl⟩ : ∃ d, ds[i]? = some d ∧ x = .str d.2 := by
        unfold dealV at hi
        rw [List.getElem?_map] at hi
        cases e : ds[i]? with
        | none => rw [e] at hi; cases hi
        | some d => rw [e] at hi; cases hi; exact ⟨d, rfl, rfl⟩
      have lt : i < ds.length := (List.getElem?_eq_some_iff.mp hd).1
      have hlen : (loadsV ((ds.take i).map (·.2))).length ≤ 0 + ((ds.take i).map (·.2)).length := loads_len _ []
      rw [List.length_map, List.length_take] at hlen
      refine ⟨_, rfl, L, rfl, .inl ⟨_, .inl z2⟩, _, rfl, _, DGet.k (k := .inr d.2) z2, ?_⟩
      dsimp only
      rw [show (valV (loadsV ((ds.take i).map (·.2))) (.inr d.2)).getD (.int 0) = _ from getD_num (allInt_loads _) d.2]
      refine ⟨_, _, rfl, rfl, _, rfl, _, rfl, L, _, rfl, DPut.k (k := .inr d.2) z2 (by rw [sizeLine_eq]; omega), ⟨_, rfl⟩, by rw [upd_ne fun q => ne q.symm]; exact z1, ?_, fun b o z n => by rw [upd_ne (ne_of_none z nL)]; exact z3 b o z n⟩
      rw [upd_same, List.take_succ, hd, Option.toList_some, List.map_append, List.map_cons, List.map_nil, loadsV_snoc]; rfl
    · rintro σ H' ⟨⟨y, rfl⟩, z1, z2, z3⟩
      refine ⟨z1, _, rfl, k _ L (fun b o z => ?_) nL ?_⟩
      · by_cases q : b = p
        · subst q; rw [upd_same, ← hp]; exact z
        · rw [upd_ne q]; exact z3 b o z q
      · rw [upd_ne ne, z2, show (dealV ds).length = ds.length from List.length_map _, List.take_length]
end
end KD
end
section
/-! Deals: how many are too many or too few. -/
namespace KD
open PySem L2
/-- over a dict's pairs, the dict locked -/
theorem for_items {d : Addr} {o : Obj} {kvs : List (Key × V)} {g : TG} {tb : TS} {D : Ends} {σ : L2.St} {H : Hp} (Pv : Nat → L2.St → Hp → Prop) (h0 : Pv 0 σ H) (hl : ∀ i σ H, i ≤ kvs.length → Pv i σ H → H d = some (.frz o (.dK kvs)))
    (hs : ∀ i k x T σ H, kvs[i]? = some (k, x) → H T = none → Pv i σ H → g (.ref T) σ (upd H T (.tup [kV k, x])) fun σ2 H2 => tb { D with nx := Pv (i + 1), ct := Pv (i + 1), bk := D.nx } σ2 H2) (hd : ∀ σ H, Pv kvs.length σ H → D.nx σ H) :
    ∃ W : Nat → Nat → L2.St → Hp → Prop, (∃ m, W 0 m σ H) ∧ ∀ i m σ H, W i m σ H →
      ((Iti d o kvs).stop i H ∧ D.nx σ H) ∨ ((Iti d o kvs).go i H ∧ ∃ N : L2.St → Hp → Prop, (∀ σ' H', N σ' H' → ∃ m', m' < m ∧ W (i + 1) m' σ' H') ∧ ∀ x H', (Iti d o kvs).yld i H x H' → g x σ H' fun σ2 H2 => tb { D with nx := N, ct := N, bk := D.nx } σ2 H2) := by
  refine ⟨fun i m σ H => m = kvs.length - i ∧ i ≤ kvs.length ∧ Pv i σ H, ⟨kvs.length, by simp, Nat.zero_le _, h0⟩, ?_⟩
  rintro i m σ H ⟨rfl, hi, p⟩
  have q := hl i σ H hi p
  by_cases hlt : i < kvs.length
  · refine .inr ⟨⟨q, hlt⟩, Pv (i + 1), fun σ' H' p' => ⟨kvs.length - (i + 1), by omega, rfl, hlt, p'⟩, fun x H' y => ?_⟩
    obtain ⟨T, k, v, y, rfl, nT, rfl⟩ := y
    exact hs i k v T σ _ y nT p
  · have e : i = kvs.length := by omega
    subst e
    exact .inl ⟨⟨q, Nat.le_refl _⟩, hd σ H p⟩
/-- numbers by names, as a dict -/
def numsV (ls : List (Str × Int)) : List (Key × V) := ls.map fun d => (.inr d.1, .int d.2)
/-- what bounds tell of a reader -/
def BoundIs (H : Hp) (bk : List (Key × V)) (r : Str) (lo hi : Int) : Prop := (valV bk (.inr r) = none ∧ lo = 0 ∧ hi = 0) ∨ ∃ a, valV bk (.inr r) = some (.ref a) ∧ H a = some (.tup [.int lo, .int hi])
theorem BoundIs.same {H H' : Hp} {bk : List (Key × V)} {r : Str} {lo hi : Int} (h : BoundIs H bk r lo hi) (e : ∀ a o, H a = some o → (∃ xs, o = .tup xs) → H' a = some o) : BoundIs H' bk r lo hi := by
  rcases h with h | ⟨a, h1, h2⟩
  · exact .inl h
  · exact .inr ⟨a, h1, e _ _ h2 ⟨_, rfl⟩⟩
/-- a dict that is built of numbers by names -/
def putAll (f : Str × Int → Int) (ls : List (Str × Int)) : List (Key × V) := ls.foldl (fun acc d => putK acc (.inr d.1) (.int (f d))) []
theorem putAll_snoc (f : Str × Int → Int) (ls : List (Str × Int)) (d : Str × Int) : putAll f (ls ++ [d]) = putK (putAll f ls) (.inr d.1) (.int (f d)) := by unfold putAll; rw [List.foldl_append]; rfl
theorem fold_len (f : Str × Int → Int) : ∀ (ls : List (Str × Int)) (kvs : List (Key × V)), (ls.foldl (fun acc d => putK acc (.inr d.1) (.int (f d))) kvs).length ≤ kvs.length + ls.length
  | [], _ => Nat.le_refl _
  | d :: ls, kvs => by
    have a := fold_len f ls (putK kvs (.inr d.1) (.int (f d)))
    have b := length_putK kvs (Sum.inr d.1 : Key) (.int (f d))
    rw [List.foldl_cons, List.length_cons]; omega
def needF (lo hi : Str → Int) (way : Str) (d : Str × Int) : Int := if way = "leaving" then max 0 (d.2 - hi d.1) else max 0 (lo d.1 - d.2)
def spNeeds : Sp := fun vs H Q _ => ∃ (lp bp : Addr) (way : Str) (ls : List (Str × Int)) (bk : List (Key × V)) (lo hi : Str → Int), vs = [.ref lp, .ref bp, .str way] ∧ H lp = some (.dK (numsV ls)) ∧ H bp = some (.dK bk) ∧ lp ≠ bp ∧
  (∀ d ∈ ls, BoundIs H bk d.1 (lo d.1) (hi d.1)) ∧ ls.length ≤ 100 ∧ ∀ H' N, Same H H' → H N = none → H' N = some (.dK (putAll (needF lo hi way) ls)) → Q (.ref N) H'
theorem iteT' {c : Prop} [Decidable c] {a b : Prop} (h : c) (x : a) : if c then a else b := by rw [if_pos h]; exact x
theorem iteF' {c : Prop} [Decidable c] {a b : Prop} (h : ¬ c) (x : b) : if c then a else b := by rw [if_neg h]; exact x
structure TxD (mg : Str → Option Value) : Prop where
  type : mg "type" = none
  int : mg "int" = none
  bool : mg "bool" = none
  len : mg "len" = none
  list : mg "list" = none
  tuple : mg "tuple" = none
  dict : mg "dict" = none
  str : mg "str" = none
  isinstance : mg "isinstance" = none
  all : mg "all" = none
  any : mg "any" = none
  abs : mg "abs" = none
  max : mg "max" = none
  min : mg "min" = none
  sum : mg "sum" = none
  range : mg "range" = none
  sorted : mg "sorted" = none
  set : mg "set" = none
  zip : mg "zip" = none
  g_MOST_LANES : ∃ t, mg "MOST_LANES" = some (.int 60 t)
  g_MOST_READERS : ∃ t, mg "MOST_READERS" = some (.int 12 t)
section
variable {P : Program} {w : World} {K : PySem.W.Frag} {mg : Str → Option Value} {base : Heap}
abbrev sNeeds : Stmt := top 28
theorem scNeeds : FnScope ["loads", "bounds", "way", "needs", "reader", "many", "low", "high"] ["loads", "bounds", "way"] (defScope sNeeds) := ⟨rfl, rfl, rfl, by decide +kernel, rfl, by decide +kernel, by decide +kernel⟩
theorem ok_needs {f : Addr} {fd : FuncData} (F : Fun K "needs_of" "needs_of" sNeeds f fd) (T : TxD mg) : FnOk P w K mg base CX0 2 f fd ["loads", "bounds", "way"] spNeeds := by
  refine F.ok scNeeds (fun vs H Q E h => ?_) (fun cdv A outer s H vs Q E hr h => ?_)
  · obtain ⟨lp, bp, way, ls, bk, lo, hi, rfl, _⟩ := h
    rfl
  · obtain ⟨lp, bp, way, ls, bk, lo, hi, rfl, hl, hb, neb, bnd, few, k⟩ := h
    have nd := scNeeds.nd
    have hu1 : _ < cLine := hr.in1.units0
    refine ⟨_, (pss_cons (ps_set (i := 3) nd rfl (Or.inl rfl) (pe_dnewK))
      (pss_cons (ps_lock (ps_for PassesOwn.never rfl (pi_items (pv 0)) (pg_tup rfl (pgs_cons (pg_name (i := 4) nd rfl (Or.inl rfl)) (pgs_cons (pg_name (i := 5) nd rfl (Or.inl rfl)) pgs_nil)))
        (pss_cons (ps_asg (pe_dget2 hu1 (pv 1) (pv 4) (pe_tup (pa_cons pe_int (pa_cons pe_int pa_nil))) ⟨by rfl, by rfl, by rfl, by rfl⟩) (pg_tup rfl (pgs_cons (pg_name (i := 6) nd rfl (Or.inl rfl)) (pgs_cons (pg_name (i := 7) nd rfl (Or.inl rfl)) pgs_nil))))
        (pss_one (ps_dput hu1 (pv 3) (pv 4) (pe_ifExp (pt_cmpR op_eq (pv 2) pe_str (nomark _)) (pe_callB (call_max2 rfl) (by rfl) T.max (by decide +kernel) (pa_cons pe_int (pa_cons (pe_op op_sub (pv 5) (pv 7)) pa_nil))) (pe_callB (call_max2 rfl) (by rfl) T.max (by decide +kernel) (pa_cons pe_int (pa_cons (pe_op op_sub (pv 6) (pv 5)) pa_nil)))) rfl)))))
      (pss_one (ps_ret (pv 3))))), ?_⟩
    refine fun N nN => ?_
    generalize hG : upd H N (.dK []) = H1
    have hN : H1 N = some (.dK []) := by rw [← hG, upd_same]
    have e1 : Same H H1 := by
      rw [← hG]
      exact made' nN
    have hl1 := e1 _ _ hl
    have ne : N ≠ lp := fun q => by rw [q, hl] at nN; cases nN
    refine ⟨lp, _, hl1, trivial, fun od => ?_⟩
    refine ⟨_, rfl, lp, od, _, rfl, upd_same, ?_⟩
    refine for_items (fun i σ H' => (∃ y1 y2 y3 y4, σ = [some (.ref lp), some (.ref bp), some (.str way), some (.ref N), y1, y2, y3, y4]) ∧ H' lp = some (.frz od (.dK (numsV ls))) ∧ H' N = some (.dK (putAll (needF lo hi way) (ls.take i))) ∧ ∀ b o, H b = some o → b ≠ lp → H' b = some o) ⟨⟨_, _, _, _, rfl⟩, upd_same, by rw [upd_ne ne]; exact hN, fun b o z n => by rw [upd_ne n]; exact e1 _ _ z⟩ (fun i σ H' _ z => z.2.1) ?_ ?_
    · rintro i k x TT σ H' hi' nT ⟨⟨y1, y2, y3, y4, rfl⟩, z1, z2, z3⟩
      obtain ⟨d, hd, rfl, rfl⟩ : ∃ d, ls[i]? = some d ∧ k = .inr d.1 ∧ x = .int d.2 := by
        unfold numsV at hi'
        rw [List.getElem?_map] at hi'
        cases e : ls[i]? with
        | none => rw [e] at hi'; cases hi'
        | some d => rw [e] at hi'; cases hi'; exact ⟨d, rfl, rfl, rfl⟩
      have lt : i < ls.length := (List.getElem?_eq_some_iff.mp hd).1
      have hlen : (putAll (needF lo hi way) (ls.take i)).length ≤ 0 + (ls.take i).length := fold_len _ _ []
      rw [List.length_take] at hlen
      have bd := bnd d (List.mem_of_getElem? hd)
      have t1 : Same H' (upd H' TT (.tup [kV (.inr d.1), .int d.2])) := made' nT
      have hb2 := t1 _ _ (z3 bp _ hb fun q => neb q.symm)
      refine ⟨TT, _, rfl, SqT.of upd_same, rfl, _, _, rfl, _, _, rfl, rfl, ?_⟩
      refine ⟨_, rfl, bp, rfl, .inl ⟨bk, .inl hb2⟩, _, rfl, by show 2 ≤ sizeLine; decide, fun t nt => ⟨_, DGet.k (k := .inr d.1) (made' nt _ _ hb2), ?_⟩⟩
      have t2 : Same (upd H' TT (.tup [kV (.inr d.1), .int d.2])) (upd (upd H' TT (.tup [kV (.inr d.1), .int d.2])) t (.tup [.int 0, .int 0])) := made' nt
      obtain ⟨a, ea, ha⟩ : ∃ a, (valV bk (.inr d.1)).getD (.ref t) = .ref a ∧ (upd (upd H' TT (.tup [kV (.inr d.1), .int d.2])) t (.tup [.int 0, .int 0])) a = some (.tup [.int (lo d.1), .int (hi d.1)]) := by
        rcases bd with ⟨b1, b2, b3⟩ | ⟨a, b1, b2⟩
        · rw [b1, b2, b3]; exact ⟨t, rfl, upd_same⟩
        · rw [b1]; exact ⟨a, rfl, t2 _ _ (t1 _ _ (z3 a _ b2 fun q => by rw [q, hl] at b2; cases b2))⟩
      have all2 := fun b o (z : H' b = some o) => t2 b o (t1 b o z)
      generalize hH2 : upd (upd H' TT (.tup [kV (.inr d.1), .int d.2])) t (.tup [.int 0, .int 0]) = H2 at ha all2 ⊢
      rw [show (valV bk (.inr d.1)).getD (.ref t) = _ from ea]
      refine ⟨a, _, rfl, SqT.of ha, rfl, _, _, rfl, _, _, rfl, rfl, ?_⟩
      have fin : ∀ n, n = needF lo hi way d → (fun (σ : L2.St) (H' : Hp) => (∃ y1 y2 y3 y4, σ = [some (.ref lp), some (.ref bp), some (.str way), some (.ref N), y1, y2, y3, y4]) ∧ H' lp = some (.frz od (.dK (numsV ls))) ∧ H' N = some (.dK (putAll (needF lo hi way) (ls.take (i + 1)))) ∧ ∀ b o, H b = some o → b ≠ lp → H' b = some o)
          [some (.ref lp), some (.ref bp), some (.str way), some (.ref N), some (.str d.1), some (.int d.2), some (.int (lo d.1)), some (.int (hi d.1))] (upd H2 N (.dK (putK (putAll (needF lo hi way) (ls.take i)) (.inr d.1) (.int n)))) := fun n en => by
        refine ⟨⟨_, _, _, _, rfl⟩, by rw [upd_ne fun q => ne q.symm]; exact all2 _ _ z1, ?_, fun b o z n => by rw [upd_ne (ne_of_none z nN)]; exact all2 _ _ (z3 b o z n)⟩
        rw [upd_same, List.take_succ, hd, Option.toList_some, putAll_snoc, en]
      have room : (putAll (needF lo hi way) (ls.take i)).length < sizeLine := by rw [sizeLine_eq]; omega
      have hN2 := all2 _ _ z2
      by_cases w1 : way = "leaving"
      · refine ⟨_, rfl, rfl, _, rfl, ?_⟩
        refine iteT' (decide_eq_true (by rw [w1])) ?_
        refine ⟨_, rfl, _, rfl, _, _, rfl, rfl, _, _, rfl, _, rfl, _, rfl, N, _, rfl, DPut.k (k := .inr d.1) hN2 room, fin _ ?_⟩
        unfold needF
        rw [if_pos w1]
        split <;> omega
      · refine ⟨_, rfl, rfl, _, rfl, ?_⟩
        refine iteF' (fun q => w1 (V.str.inj (of_decide_eq_true q))) ?_
        refine ⟨_, rfl, _, rfl, _, _, rfl, rfl, _, _, rfl, _, rfl, _, rfl, N, _, rfl, DPut.k (k := .inr d.1) hN2 room, fin _ ?_⟩
        unfold needF
        rw [if_neg w1]
        split <;> omega
    · rintro σ H' ⟨⟨y1, y2, y3, y4, rfl⟩, z1, z2, z3⟩
      refine ⟨z1, _, rfl, k _ N (fun b o z => ?_) nN ?_⟩
      · by_cases q : b = lp
        · subst q; rw [upd_same, ← hl]; exact z
        · rw [upd_ne q]; exact z3 b o z q
      · rw [upd_ne ne, z2, show (numsV ls).length = ls.length from List.length_map _, List.take_length]
end
end KD
end
section
/-! Deals of lanes: numbers of lanes within bounds, as near to those that are told as can be. -/
namespace DM
/-- a reader: how many lanes it has, at least and at most may have -/
structure Rd where
  (l lo hi : Int)
def Rd.c (r : Rd) : Int := min (max r.l r.lo) r.hi
def Rd.Ok (r : Rd) : Prop := r.lo ≤ r.hi
def sumB (f : Rd → Int) : List Rd → Int
  | [] => 0
  | r :: rs => f r + sumB f rs
def near : Int → List Rd → List Int
  | _, [] => []
  | left, r :: rs => (r.c + if left > 0 then min left (r.hi - r.c) else max left (r.lo - r.c)) :: near (left - if left > 0 then min left (r.hi - r.c) else max left (r.lo - r.c)) rs
def cost : List Rd → List Int → Int
  | r :: rs, f :: fs => max 0 (r.l - f) + cost rs fs
  | _, _ => 0
def gain : List Rd → List Int → Int
  | r :: rs, f :: fs => max 0 (f - r.l) + gain rs fs
  | _, _ => 0
/-- within the bounds -/
def In : List Rd → List Int → Prop
  | [], [] => True
  | r :: rs, f :: fs => r.lo ≤ f ∧ f ≤ r.hi ∧ In rs fs
  | _, _ => False
theorem c_in {r : Rd} (h : r.Ok) : r.lo ≤ r.c ∧ r.c ≤ r.hi := by unfold Rd.c; unfold Rd.Ok at h; omega
theorem near_in : ∀ (rs : List Rd) (left : Int), (∀ r ∈ rs, r.Ok) → In rs (near left rs)
  | [], _, _ => trivial
  | r :: rs, left, ok => by
    have a := c_in (ok r List.mem_cons_self)
    refine ⟨?_, ?_, near_in rs _ fun x h => ok x (List.mem_cons_of_mem _ h)⟩ <;> split <;> omega
theorem near_len : ∀ (rs : List Rd) (left : Int), (near left rs).length = rs.length
  | [], _ => rfl
  | _ :: rs, _ => by unfold near; rw [List.length_cons, List.length_cons, near_len rs]
theorem sumB_le {f g : Rd → Int} : ∀ (rs : List Rd), (∀ r ∈ rs, f r ≤ g r) → sumB f rs ≤ sumB g rs
  | [], _ => Int.le_refl _
  | r :: rs, h => by
    have a := sumB_le rs fun x hx => h x (List.mem_cons_of_mem _ hx)
    have b := h r List.mem_cons_self
    unfold sumB; omega
theorem sumB_0 : ∀ rs : List Rd, sumB (fun _ => (0 : Int)) rs = 0
  | [] => rfl
  | r :: rs => by unfold sumB; rw [sumB_0 rs]; rfl
/-- all that is left goes in -/
theorem near_up : ∀ (rs : List Rd) (left : Int), (∀ r ∈ rs, r.Ok) → 0 ≤ left → left ≤ sumB (fun r => r.hi - r.c) rs → (near left rs).sum = sumB Rd.c rs + left
  | [], left, _, h0, h1 => by
    have : left = 0 := by unfold sumB at h1; omega
    subst this; rfl
  | r :: rs, left, ok, h0, h1 => by
    have a := c_in (ok r List.mem_cons_self)
    have ok' : ∀ x ∈ rs, x.Ok := fun x h => ok x (List.mem_cons_of_mem _ h)
    unfold sumB at h1
    have z := sumB_le (f := fun _ => 0) (g := fun r => r.hi - r.c) rs fun x hx => by have := c_in (ok' x hx); show 0 ≤ x.hi - x.c; omega
    rw [sumB_0] at z
    have ih := near_up rs (left - if left > 0 then min left (r.hi - r.c) else max left (r.lo - r.c)) ok' (by split <;> omega) (by split <;> omega)
    unfold near sumB
    rw [List.sum_cons, ih]; omega
theorem near_down : ∀ (rs : List Rd) (left : Int), (∀ r ∈ rs, r.Ok) → left ≤ 0 → -left ≤ sumB (fun r => r.c - r.lo) rs → (near left rs).sum = sumB Rd.c rs + left
  | [], left, _, h0, h1 => by
    have : left = 0 := by unfold sumB at h1; omega
    subst this; rfl
  | r :: rs, left, ok, h0, h1 => by
    have a := c_in (ok r List.mem_cons_self)
    have ok' : ∀ x ∈ rs, x.Ok := fun x h => ok x (List.mem_cons_of_mem _ h)
    unfold sumB at h1
    have z := sumB_le (f := fun _ => 0) (g := fun r => r.c - r.lo) rs fun x hx => by have := c_in (ok' x hx); show 0 ≤ x.c - x.lo; omega
    rw [sumB_0] at z
    have ih := near_down rs (left - if left > 0 then min left (r.hi - r.c) else max left (r.lo - r.c)) ok' (by split <;> omega) (by split <;> omega)
    unfold near sumB
    rw [List.sum_cons, ih]; omega
/-- who may have more: none gives but what it must -/
theorem cost_up : ∀ (rs : List Rd) (left : Int), (∀ r ∈ rs, r.Ok) → 0 ≤ left → cost rs (near left rs) = sumB (fun r => max 0 (r.l - r.hi)) rs
  | [], _, _, _ => rfl
  | r :: rs, left, ok, h0 => by
    have a := c_in (ok r List.mem_cons_self)
    have b : r.c = min (max r.l r.lo) r.hi := rfl
    have o : r.lo ≤ r.hi := ok r List.mem_cons_self
    have ih := cost_up rs (left - if left > 0 then min left (r.hi - r.c) else max left (r.lo - r.c)) (fun x h => ok x (List.mem_cons_of_mem _ h)) (by split <;> omega)
    unfold near cost sumB
    rw [ih]
    generalize sumB (fun r => max 0 (r.l - r.hi)) rs = k
    show max 0 (r.l - (r.c + _)) + k = max 0 (r.l - r.hi) + k
    split <;> omega
theorem gain_down : ∀ (rs : List Rd) (left : Int), (∀ r ∈ rs, r.Ok) → left ≤ 0 → gain rs (near left rs) = sumB (fun r => max 0 (r.lo - r.l)) rs
  | [], _, _, _ => rfl
  | r :: rs, left, ok, h0 => by
    have a := c_in (ok r List.mem_cons_self)
    have b : r.c = min (max r.l r.lo) r.hi := rfl
    have o : r.lo ≤ r.hi := ok r List.mem_cons_self
    have ih := gain_down rs (left - if left > 0 then min left (r.hi - r.c) else max left (r.lo - r.c)) (fun x h => ok x (List.mem_cons_of_mem _ h)) (by split <;> omega)
    unfold near gain sumB
    rw [ih]
    generalize sumB (fun r => max 0 (r.lo - r.l)) rs = k
    show max 0 ((r.c + _) - r.l) + k = max 0 (r.lo - r.l) + k
    split <;> omega
/-- what is given is what is got -/
theorem give_get : ∀ (rs : List Rd) (fs : List Int), fs.length = rs.length → cost rs fs - gain rs fs = sumB Rd.l rs - fs.sum
  | [], [], _ => rfl
  | r :: rs, f :: fs, h => by
    have ih := give_get rs fs (by simpa using h)
    unfold cost gain sumB
    rw [List.sum_cons]; omega
theorem cost_ge : ∀ (rs : List Rd) (fs : List Int), In rs fs → sumB (fun r => max 0 (r.l - r.hi)) rs ≤ cost rs fs
  | [], [], _ => Int.le_refl _
  | r :: rs, f :: fs, h => by
    have ih := cost_ge rs fs h.2.2
    have a := h.2.1
    unfold cost sumB
    show max 0 (r.l - r.hi) + _ ≤ _
    omega
theorem gain_ge : ∀ (rs : List Rd) (fs : List Int), In rs fs → sumB (fun r => max 0 (r.lo - r.l)) rs ≤ gain rs fs
  | [], [], _ => Int.le_refl _
  | r :: rs, f :: fs, h => by
    have ih := gain_ge rs fs h.2.2
    have a := h.1
    unfold gain sumB
    show max 0 (r.lo - r.l) + _ ≤ _
    omega
theorem in_len : ∀ (rs : List Rd) (fs : List Int), In rs fs → fs.length = rs.length
  | [], [], _ => rfl
  | _ :: rs, _ :: fs, h => by rw [List.length_cons, List.length_cons, in_len rs fs h.2.2]
theorem sumB_sub {f g : Rd → Int} : ∀ rs : List Rd, sumB (fun r => f r - g r) rs = sumB f rs - sumB g rs
  | [] => rfl
  | r :: rs => by unfold sumB; rw [sumB_sub rs]; omega
/-- the numbers that the program comes to: within the bounds, so many in all, and no others cost less -/
theorem near_best {rs : List Rd} (ok : ∀ r ∈ rs, r.Ok) (low : sumB Rd.lo rs ≤ sumB Rd.l rs) (high : sumB Rd.l rs ≤ sumB Rd.hi rs) :
    In rs (near (sumB Rd.l rs - sumB Rd.c rs) rs) ∧ (near (sumB Rd.l rs - sumB Rd.c rs) rs).sum = sumB Rd.l rs ∧
    ∀ gs, In rs gs → gs.sum = sumB Rd.l rs → cost rs (near (sumB Rd.l rs - sumB Rd.c rs) rs) ≤ cost rs gs := by
  have inn := near_in rs (sumB Rd.l rs - sumB Rd.c rs) ok
  rcases Int.le_total 0 (sumB Rd.l rs - sumB Rd.c rs) with h | h
  · have u := near_up rs _ ok h (by rw [sumB_sub]; omega)
    refine ⟨inn, by omega, fun gs hg _ => ?_⟩
    rw [cost_up rs _ ok h]
    exact cost_ge rs gs hg
  · have u := near_down rs _ ok h (by rw [sumB_sub]; omega)
    refine ⟨inn, by omega, fun gs hg hs => ?_⟩
    have a := give_get rs _ (in_len rs _ inn)
    have b := give_get rs gs (in_len rs gs hg)
    have c := gain_down rs _ ok h
    have d := gain_ge rs gs hg
    omega
/-- the evidence: either all that is given must be given, or all that is got must be got -/
theorem near_way {rs : List Rd} (ok : ∀ r ∈ rs, r.Ok) (low : sumB Rd.lo rs ≤ sumB Rd.l rs) (high : sumB Rd.l rs ≤ sumB Rd.hi rs) :
    cost rs (near (sumB Rd.l rs - sumB Rd.c rs) rs) = sumB (fun r => max 0 (r.l - r.hi)) rs ∨ cost rs (near (sumB Rd.l rs - sumB Rd.c rs) rs) = sumB (fun r => max 0 (r.lo - r.l)) rs := by
  have inn := near_in rs (sumB Rd.l rs - sumB Rd.c rs) ok
  rcases Int.le_total 0 (sumB Rd.l rs - sumB Rd.c rs) with h | h
  · exact .inl (cost_up rs _ ok h)
  · have u := near_down rs _ ok h (by rw [sumB_sub]; omega)
    have a := give_get rs _ (in_len rs _ inn)
    have c := gain_down rs _ ok h
    exact .inr (by omega)
end DM
end
section
/-! All rows of numbers within limits whose sum is told; their least cost is that of the nearest numbers. -/
namespace DM
def ups (a : Int) : Nat → List Int
  | 0 => []
  | n + 1 => a :: ups (a + 1) n
theorem mem_ups : ∀ (n : Nat) (a x : Int), x ∈ ups a n ↔ a ≤ x ∧ x < a + n
  | 0, a, x => by unfold ups; constructor
                  · intro h; cases h
                  · intro h; omega
  | n + 1, a, x => by
    unfold ups
    rw [List.mem_cons, mem_ups n (a + 1) x]
    omega
/-- the rows, as the law finds them -/
def rows : List (Int × Int) → Int → List (List Int)
  | [], m => if m = 0 then [[]] else []
  | l :: ls, m => (ups l.1 (min l.2 m + 1 - l.1).toNat).flatMap fun x => (rows ls (m - x)).map (x :: ·)
def InL : List (Int × Int) → List Int → Prop
  | [], [] => True
  | l :: ls, f :: fs => l.1 ≤ f ∧ f ≤ l.2 ∧ InL ls fs
  | _, _ => False
theorem inL_sum : ∀ (ls : List (Int × Int)) (fs : List Int), (∀ l ∈ ls, 0 ≤ l.1) → InL ls fs → 0 ≤ fs.sum
  | [], [], _, _ => Int.le_refl _
  | l :: ls, f :: fs, h, i => by
    have a := inL_sum ls fs (fun x hx => h x (List.mem_cons_of_mem _ hx)) i.2.2
    have b := h l List.mem_cons_self
    have c := i.1
    rw [List.sum_cons]; omega
  | [], _ :: _, _, i => i.elim
  | _ :: _, [], _, i => i.elim
theorem mem_rows : ∀ (ls : List (Int × Int)) (m : Int) (r : List Int), (∀ l ∈ ls, 0 ≤ l.1) → (r ∈ rows ls m ↔ InL ls r ∧ r.sum = m)
  | [], m, r, _ => by
    unfold rows
    constructor
    · intro h
      split at h
      · next e => rw [List.mem_singleton.mp h]; exact ⟨trivial, by rw [e]; rfl⟩
      · cases h
    · intro ⟨i, s⟩
      cases r with
      | nil =>
        have : m = 0 := s.symm
        rw [if_pos this]; exact List.mem_singleton.mpr rfl
      | cons x xs => exact i.elim
  | l :: ls, m, r, h => by
    have h' : ∀ x ∈ ls, 0 ≤ x.1 := fun x hx => h x (List.mem_cons_of_mem _ hx)
    have b := h l List.mem_cons_self
    unfold rows
    rw [List.mem_flatMap]
    constructor
    · intro ⟨x, hx, hr⟩
      obtain ⟨fs, hf, e⟩ := List.mem_map.mp hr
      subst e
      have q := (mem_rows ls (m - x) fs h').mp hf
      have u := (mem_ups _ _ _).mp hx
      refine ⟨⟨u.1, by omega, q.1⟩, ?_⟩
      rw [List.sum_cons, q.2]; omega
    · intro ⟨i, s⟩
      cases r with
      | nil => exact i.elim
      | cons x xs =>
        rw [List.sum_cons] at s
        have z := inL_sum ls xs h' i.2.2
        have i1 := i.1
        have i2 := i.2.1
        refine ⟨x, (mem_ups _ _ _).mpr ⟨i1, by omega⟩, List.mem_map.mpr ⟨xs, (mem_rows ls (m - x) xs h').mpr ⟨i.2.2, by omega⟩, rfl⟩⟩
def Rd.lim (r : Rd) : Int × Int := (r.lo, r.hi)
theorem in_inL : ∀ (rs : List Rd) (fs : List Int), In rs fs ↔ InL (rs.map Rd.lim) fs
  | [], [] => Iff.rfl
  | [], _ :: _ => Iff.rfl
  | _ :: _, [] => Iff.rfl
  | r :: rs, f :: fs => by
    show (r.lo ≤ f ∧ f ≤ r.hi ∧ In rs fs) ↔ (r.lo ≤ f ∧ f ≤ r.hi ∧ InL (rs.map Rd.lim) fs)
    rw [in_inL rs fs]
theorem in_bounds : ∀ (rs : List Rd) (fs : List Int), In rs fs → sumB Rd.lo rs ≤ fs.sum ∧ fs.sum ≤ sumB Rd.hi rs
  | [], [], _ => ⟨Int.le_refl _, Int.le_refl _⟩
  | [], _ :: _, i => i.elim
  | _ :: _, [], i => i.elim
  | r :: rs, f :: fs, i => by
    have a := in_bounds rs fs i.2.2
    have b := i.1
    have c := i.2.1
    unfold sumB
    rw [List.sum_cons]; omega
end DM
end
section
/-! The same by names: the rows go over the names in another order than the program does. -/
namespace DM
variable {σ : Type}
def sumF (f : σ → Int) : List σ → Int
  | [] => 0
  | n :: ns => f n + sumF f ns
theorem sumF_perm {f : σ → Int} {ns ms : List σ} (h : ns.Perm ms) : sumF f ns = sumF f ms := by
  induction h with
  | nil => rfl
  | cons x _ ih => unfold sumF; rw [ih]
  | swap x y l => unfold sumF; unfold sumF; omega
  | trans _ _ a b => rw [a, b]
theorem sum_map (f : σ → Int) : ∀ ns : List σ, (ns.map f).sum = sumF f ns
  | [] => rfl
  | n :: ns => by rw [List.map_cons, List.sum_cons, sum_map f ns]; rfl
structure Deal (σ : Type) where
  (l lo hi : σ → Int)
def Deal.rd (D : Deal σ) (n : σ) : Rd := ⟨D.l n, D.lo n, D.hi n⟩
theorem sumB_map (D : Deal σ) (f : Rd → Int) : ∀ ns : List σ, sumB f (ns.map D.rd) = sumF (fun n => f (D.rd n)) ns
  | [] => rfl
  | n :: ns => by rw [List.map_cons]; unfold sumB sumF; rw [sumB_map D f ns]
theorem in_map (D : Deal σ) (f : σ → Int) : ∀ ns : List σ, In (ns.map D.rd) (ns.map f) ↔ ∀ n ∈ ns, D.lo n ≤ f n ∧ f n ≤ D.hi n
  | [] => ⟨fun _ n h => absurd h List.not_mem_nil, fun _ => trivial⟩
  | n :: ns => by
    rw [List.map_cons, List.map_cons]
    show (D.lo n ≤ f n ∧ f n ≤ D.hi n ∧ In (ns.map D.rd) (ns.map f)) ↔ _
    rw [in_map D f ns]
    constructor
    · intro ⟨a, b, c⟩ x hx
      cases hx with
      | head => exact ⟨a, b⟩
      | tail _ h => exact c x h
    · intro h
      exact ⟨(h n List.mem_cons_self).1, (h n List.mem_cons_self).2, fun x hx => h x (List.mem_cons_of_mem _ hx)⟩
theorem cost_map (D : Deal σ) (f : σ → Int) : ∀ ns : List σ, cost (ns.map D.rd) (ns.map f) = sumF (fun n => max 0 (D.l n - f n)) ns
  | [] => rfl
  | n :: ns => by rw [List.map_cons, List.map_cons]; unfold cost sumF; rw [cost_map D f ns]; rfl
/-- numbers in a row are numbers by names -/
theorem by_names [DecidableEq σ] : ∀ (ns : List σ) (fs : List Int), ns.Nodup → fs.length = ns.length → ∃ f : σ → Int, fs = ns.map f
  | [], [], _, _ => ⟨fun _ => 0, rfl⟩
  | [], _ :: _, _, h => by cases h
  | _ :: _, [], _, h => by cases h
  | n :: ns, x :: xs, d, h => by
    have d' := List.nodup_cons.mp d
    obtain ⟨f, e⟩ := by_names ns xs d'.2 (Nat.succ.inj h)
    refine ⟨fun m => if m = n then x else f m, ?_⟩
    rw [List.map_cons, if_pos rfl, e]
    congr 1
    refine List.map_congr_left fun m hm => ?_
    rw [if_neg fun (q : m = n) => d'.1 (q ▸ hm)]
/-- what the program comes to, going over `ms`, is a row over `ns`, and no row costs less -/
theorem least [DecidableEq σ] (D : Deal σ) {ns ms : List σ} (p : ns.Perm ms) (d : ns.Nodup)
    (ok : ∀ n ∈ ms, 0 ≤ D.lo n ∧ D.lo n ≤ D.hi n)
    (low : sumF D.lo ms ≤ sumF D.l ms) (high : sumF D.l ms ≤ sumF D.hi ms) :
    ∃ f : σ → Int, near (sumF D.l ms - sumF (fun n => (D.rd n).c) ms) (ms.map D.rd) = ms.map f ∧
      (∀ n ∈ ms, D.lo n ≤ f n ∧ f n ≤ D.hi n) ∧ sumF f ms = sumF D.l ms ∧
      ns.map f ∈ rows (ns.map fun n => (D.lo n, D.hi n)) (sumF D.l ms) ∧
      cost (ns.map D.rd) (ns.map f) = sumF (fun n => max 0 (D.l n - f n)) ms ∧
      (∀ r ∈ rows (ns.map fun n => (D.lo n, D.hi n)) (sumF D.l ms), cost (ns.map D.rd) (ns.map f) ≤ cost (ns.map D.rd) r) ∧
      (sumF (fun n => max 0 (D.l n - f n)) ms = sumF (fun n => max 0 (D.l n - D.hi n)) ms ∨
        sumF (fun n => max 0 (D.l n - f n)) ms = sumF (fun n => max 0 (D.lo n - D.l n)) ms) := by
  have dm : ms.Nodup := p.nodup_iff.mp d
  have okB : ∀ r ∈ ms.map D.rd, r.Ok := fun r hr => by
    obtain ⟨n, hn, e⟩ := List.mem_map.mp hr
    subst e
    exact (ok n hn).2
  have lowB : sumB Rd.lo (ms.map D.rd) ≤ sumB Rd.l (ms.map D.rd) := by rw [sumB_map, sumB_map]; exact low
  have highB : sumB Rd.l (ms.map D.rd) ≤ sumB Rd.hi (ms.map D.rd) := by rw [sumB_map, sumB_map]; exact high
  have best := near_best okB lowB highB
  have way := near_way okB lowB highB
  have e1 : sumB Rd.l (ms.map D.rd) = sumF D.l ms := sumB_map D Rd.l ms
  have e2 : sumB Rd.c (ms.map D.rd) = sumF (fun n => (D.rd n).c) ms := sumB_map D Rd.c ms
  rw [e1, e2] at best way
  obtain ⟨f, ef⟩ := by_names ms _ dm (by rw [near_len, List.length_map] : (near (sumF D.l ms - sumF (fun n => (D.rd n).c) ms) (ms.map D.rd)).length = ms.length)
  rw [ef] at best way
  have inn := (in_map D f ms).mp best.1
  have s : sumF f ms = sumF D.l ms := by rw [← sum_map]; exact best.2.1
  have lims : (ns.map fun n => (D.lo n, D.hi n)) = (ns.map D.rd).map Rd.lim := by rw [List.map_map]; rfl
  have pos : ∀ l ∈ ns.map fun n => (D.lo n, D.hi n), 0 ≤ l.1 := fun l hl => by
    obtain ⟨n, hn, e⟩ := List.mem_map.mp hl
    subst e
    exact (ok n (p.mem_iff.mp hn)).1
  have c1 : cost (ns.map D.rd) (ns.map f) = sumF (fun n => max 0 (D.l n - f n)) ms := by rw [cost_map, sumF_perm p]
  refine ⟨f, ef, inn, s, ?_, c1, ?_, ?_⟩
  · refine (mem_rows _ _ _ pos).mpr ⟨?_, by rw [sum_map, sumF_perm p, s]⟩
    rw [lims]
    exact (in_inL _ _).mp ((in_map D f ns).mpr fun n hn => inn n (p.mem_iff.mp hn))
  · intro r hr
    have q := (mem_rows _ _ _ pos).mp hr
    rw [lims] at q
    have i := (in_inL _ _).mpr q.1
    obtain ⟨g, eg⟩ := by_names ns r d (by rw [in_len _ _ i, List.length_map])
    subst eg
    have ig := (in_map D g ns).mp i
    have sg : sumF g ms = sumF D.l ms := by rw [← sumF_perm p, ← sum_map]; exact q.2
    have b := best.2.2 (ms.map g) ((in_map D g ms).mpr fun n hn => ig n (p.mem_iff.mpr hn)) (by rw [sum_map]; exact sg)
    rw [cost_map, cost_map] at b
    rw [c1, cost_map, sumF_perm p]
    exact b
  · rw [cost_map, sumB_map, sumB_map] at way
    exact way
/-- there are rows only where the program finds room -/
theorem no_rows (D : Deal σ) {ns : List σ} {m : Int} (ok : ∀ n ∈ ns, 0 ≤ D.lo n) (h : ¬(sumF D.lo ns ≤ m ∧ m ≤ sumF D.hi ns)) :
    rows (ns.map fun n => (D.lo n, D.hi n)) m = [] := by
  refine List.eq_nil_iff_forall_not_mem.mpr fun r hr => h ?_
  have pos : ∀ l ∈ ns.map fun n => (D.lo n, D.hi n), 0 ≤ l.1 := fun l hl => by
    obtain ⟨n, hn, e⟩ := List.mem_map.mp hl
    subst e
    exact ok n hn
  have q := (mem_rows _ _ _ pos).mp hr
  have lims : (ns.map fun n => (D.lo n, D.hi n)) = (ns.map D.rd).map Rd.lim := by rw [List.map_map]; rfl
  rw [lims] at q
  have b := in_bounds _ _ ((in_inL _ _).mpr q.1)
  rw [sumB_map, sumB_map, q.2] at b
  exact b
end DM
end
section
/-! The moves from a deal to other numbers of lanes. -/
namespace DM
variable {σ τ : Type} [DecidableEq σ]
def cnt (n : σ) : List (τ × σ) → Int
  | [] => 0
  | x :: xs => (if x.2 = n then 1 else 0) + cnt n xs
def cw (n : σ) : List σ → Int
  | [] => 0
  | x :: xs => (if x = n then 1 else 0) + cw n xs
def less (sp : σ → Int) (r : σ) : σ → Int := fun n => if n = r then sp n - 1 else sp n
/-- the moves: who has some to spare gives to the next one who wants -/
def mv : (σ → Int) → List σ → List (τ × σ) → List (τ × σ × σ)
  | _, _, [] => []
  | sp, w, x :: xs => if 0 < sp x.2 then match w with
    | g :: w' => (x.1, x.2, g) :: mv (less sp x.2) w' xs
    | [] => []
    else mv sp w xs
/-- the deal behind the moves -/
def bh : (σ → Int) → List σ → List (τ × σ) → List (τ × σ)
  | _, _, [] => []
  | sp, w, x :: xs => if 0 < sp x.2 then match w with
    | g :: w' => (x.1, g) :: bh (less sp x.2) w' xs
    | [] => x :: xs
    else x :: bh sp w xs
theorem cnt_cons (n : σ) (x : τ × σ) (xs : List (τ × σ)) : cnt n (x :: xs) = (if x.2 = n then 1 else 0) + cnt n xs := rfl
theorem cnt_0 (n : σ) : ∀ xs : List (τ × σ), 0 ≤ cnt n xs
  | [] => Int.le_refl _
  | x :: xs => by have := cnt_0 n xs; unfold cnt; split <;> omega
theorem sumF_at {f g : σ → Int} {r : σ} : ∀ ms : List σ, ms.Nodup → r ∈ ms → (∀ n, n ≠ r → f n = g n) → sumF f ms = sumF g ms + (f r - g r)
  | [], _, h, _ => absurd h List.not_mem_nil
  | m :: ms, d, h, e => by
    have d' := List.nodup_cons.mp d
    unfold sumF
    by_cases q : m = r
    · subst q
      have : sumF f ms = sumF g ms := by
        have z : ∀ xs : List σ, m ∉ xs → sumF f xs = sumF g xs := by
          intro xs
          induction xs with
          | nil => intro _; rfl
          | cons y ys ih =>
            intro hy
            unfold sumF
            rw [ih fun k => hy (List.mem_cons_of_mem _ k), e y fun k => hy (k ▸ List.mem_cons_self)]
        exact z ms d'.1
      omega
    · have hm : r ∈ ms := by
        cases h with
        | head => exact absurd rfl q
        | tail _ k => exact k
      have := sumF_at ms d'.2 hm e
      have := e m q
      omega
theorem sumF_0 {f : σ → Int} : ∀ ms : List σ, (∀ n, 0 ≤ f n) → 0 ≤ sumF f ms
  | [], _ => Int.le_refl _
  | m :: ms, h => by have a := sumF_0 ms h; have b := h m; unfold sumF; omega
/-- how many moves there are, who gives, and how many each has behind them -/
theorem mv_bh {ms : List σ} (d : ms.Nodup) : ∀ (xs : List (τ × σ)) (sp : σ → Int) (w : List σ),
    (∀ x ∈ xs, x.2 ∈ ms) → sumF (fun n => min (max 0 (sp n)) (cnt n xs)) ms ≤ w.length →
    ((mv sp w xs).length : Int) = sumF (fun n => min (max 0 (sp n)) (cnt n xs)) ms ∧
    (∀ y ∈ mv sp w xs, (y.1, y.2.1) ∈ xs ∧ 0 < sp y.2.1 ∧ y.2.2 ∈ w) ∧
    (mv sp w xs).map (fun y => y.2.2) = w.take (mv sp w xs).length ∧
    ∀ n, cnt n (bh sp w xs) = cnt n xs - min (max 0 (sp n)) (cnt n xs) + cw n (w.take (mv sp w xs).length)
  | [], sp, w, _, _ => by
    refine ⟨?_, fun y h => absurd h List.not_mem_nil, rfl, fun n => ?_⟩
    · have : ∀ ks : List σ, sumF (fun n => min (max 0 (sp n)) (cnt n ([] : List (τ × σ)))) ks = 0 := by
        intro ks
        induction ks with
        | nil => rfl
        | cons k ks ih => unfold sumF; rw [ih]; unfold cnt; omega
      rw [this]; rfl
    · unfold bh mv cnt
      rw [List.length_nil, List.take_zero]; unfold cw; omega
  | x :: xs, sp, w, h, hw => by
    have h' : ∀ y ∈ xs, y.2 ∈ ms := fun y k => h y (List.mem_cons_of_mem _ k)
    have hx := h x List.mem_cons_self
    have c0 := cnt_0 x.2 xs
    by_cases pos : 0 < sp x.2
    · have e := sumF_at (f := fun n => min (max 0 (sp n)) (cnt n (x :: xs))) (g := fun n => min (max 0 (less sp x.2 n)) (cnt n xs)) (r := x.2) ms d hx fun n ne => by
        rw [cnt_cons, if_neg fun k : x.2 = n => ne k.symm, Int.zero_add]
        unfold less
        rw [if_neg ne]
      have one : min (max 0 (sp x.2)) (cnt x.2 (x :: xs)) = min (max 0 (less sp x.2 x.2)) (cnt x.2 xs) + 1 := by
        rw [cnt_cons, if_pos rfl]
        unfold less
        rw [if_pos rfl]; omega
      have z : 0 ≤ sumF (fun n => min (max 0 (less sp x.2 n)) (cnt n xs)) ms := sumF_0 ms fun n => by have := cnt_0 n xs; omega
      cases w with
      | nil => rw [List.length_nil] at hw; omega
      | cons g w' =>
        rw [List.length_cons] at hw
        have ih := mv_bh d xs (less sp x.2) w' h' (by omega)
        have em : mv sp (g :: w') (x :: xs) = (x.1, x.2, g) :: mv (less sp x.2) w' xs := by
          conv => lhs; unfold mv
          rw [if_pos pos]
        have eb : bh sp (g :: w') (x :: xs) = (x.1, g) :: bh (less sp x.2) w' xs := by
          conv => lhs; unfold bh
          rw [if_pos pos]
        rw [em, eb, List.length_cons]
        refine ⟨by have := ih.1; omega, fun y hy => ?_, ?_, fun n => ?_⟩
        · cases hy with
          | head => exact ⟨List.mem_cons_self, pos, List.mem_cons_self⟩
          | tail _ k =>
            have a := ih.2.1 y k
            refine ⟨List.mem_cons_of_mem _ a.1, ?_, List.mem_cons_of_mem _ a.2.2⟩
            have b := a.2.1
            unfold less at b
            split at b <;> omega
        · rw [List.map_cons, ih.2.2.1, List.take_succ_cons]
        · have a := ih.2.2.2 n
          rw [List.take_succ_cons]
          have b := cnt_0 n xs
          show (if g = n then 1 else 0) + cnt n (bh (less sp x.2) w' xs) = ((if x.2 = n then 1 else 0) + cnt n xs) - min (max 0 (sp n)) ((if x.2 = n then 1 else 0) + cnt n xs) + ((if g = n then 1 else 0) + cw n (w'.take (mv (less sp x.2) w' xs).length))
          rw [a]
          by_cases q : x.2 = n
          · subst q
            unfold less
            rw [if_pos rfl, if_pos rfl]; omega
          · unfold less
            rw [if_neg q, if_neg fun k : n = x.2 => q k.symm]; omega
    · have e : ∀ n, min (max 0 (sp n)) (cnt n (x :: xs)) = min (max 0 (sp n)) (cnt n xs) := fun n => by
        rw [cnt_cons]
        have b := cnt_0 n xs
        by_cases q : x.2 = n
        · subst q; rw [if_pos rfl]; omega
        · rw [if_neg q, Int.zero_add]
      have ee : (fun n => min (max 0 (sp n)) (cnt n (x :: xs))) = fun n => min (max 0 (sp n)) (cnt n xs) := funext e
      rw [ee] at hw ⊢
      have ih := mv_bh d xs sp w h' hw
      have em : mv sp w (x :: xs) = mv sp w xs := by
        conv => lhs; unfold mv
        rw [if_neg pos]
      have eb : bh sp w (x :: xs) = x :: bh sp w xs := by
        conv => lhs; unfold bh
        rw [if_neg pos]
      rw [em, eb]
      refine ⟨ih.1, fun y hy => ⟨List.mem_cons_of_mem _ (ih.2.1 y hy).1, (ih.2.1 y hy).2⟩, ih.2.2.1, fun n => ?_⟩
      have a := ih.2.2.2 n
      rw [e n]
      show (if x.2 = n then 1 else 0) + cnt n (bh sp w xs) = ((if x.2 = n then 1 else 0) + cnt n xs) - min (max 0 (sp n)) (cnt n xs) + _
      rw [a]; omega
end DM
end
section
/-! The moves lead to the numbers that were asked for, and are as many as these cost. -/
namespace DM
variable {σ τ : Type} [DecidableEq σ]
/-- who wants how many -/
def wants (f l : σ → Int) : List σ → List σ
  | [] => []
  | n :: ns => List.replicate (f n - l n).toNat n ++ wants f l ns
theorem wants_len (f l : σ → Int) : ∀ ns : List σ, ((wants f l ns).length : Int) = sumF (fun n => max 0 (f n - l n)) ns
  | [] => rfl
  | n :: ns => by
    unfold wants sumF
    rw [List.length_append, List.length_replicate]
    have := wants_len f l ns
    omega
theorem cw_append (n : σ) : ∀ xs ys : List σ, cw n (xs ++ ys) = cw n xs + cw n ys
  | [], ys => by show cw n ys = 0 + cw n ys; omega
  | x :: xs, ys => by
    show (if x = n then 1 else 0) + cw n (xs ++ ys) = ((if x = n then 1 else 0) + cw n xs) + cw n ys
    rw [cw_append n xs ys]; omega
theorem cw_same (n : σ) : ∀ k : Nat, cw n (List.replicate k n) = k
  | 0 => rfl
  | k + 1 => by
    rw [List.replicate_succ]
    show (if n = n then 1 else 0) + cw n (List.replicate k n) = _
    rw [cw_same n k, if_pos rfl]; omega
theorem cw_none (n : σ) : ∀ xs : List σ, n ∉ xs → cw n xs = 0
  | [], _ => rfl
  | x :: xs, h => by
    show (if x = n then 1 else 0) + cw n xs = 0
    rw [cw_none n xs fun k => h (List.mem_cons_of_mem _ k), if_neg fun (k : x = n) => h (by rw [← k]; exact List.mem_cons_self)]; rfl
theorem wants_mem (f l : σ → Int) : ∀ (ns : List σ) (x : σ), x ∈ wants f l ns → x ∈ ns ∧ l x < f x
  | [], x, h => absurd h List.not_mem_nil
  | n :: ns, x, h => by
    unfold wants at h
    rcases List.mem_append.mp h with h | h
    · have a := List.mem_replicate.mp h
      rw [a.2]
      exact ⟨List.mem_cons_self, by have := a.1; omega⟩
    · have a := wants_mem f l ns x h
      exact ⟨List.mem_cons_of_mem _ a.1, a.2⟩
theorem wants_cw (f l : σ → Int) : ∀ (ns : List σ) (n : σ), ns.Nodup → n ∈ ns → cw n (wants f l ns) = max 0 (f n - l n)
  | [], n, _, h => absurd h List.not_mem_nil
  | m :: ms, n, d, h => by
    have d' := List.nodup_cons.mp d
    unfold wants
    rw [cw_append]
    by_cases q : m = n
    · subst q
      rw [cw_same, cw_none m _ fun k => d'.1 (wants_mem f l ms m k).1]; omega
    · have hm : n ∈ ms := by
        cases h with
        | head => exact absurd rfl q
        | tail _ k => exact k
      rw [wants_cw f l ms n d'.2 hm, cw_none n _ fun k => q (List.mem_replicate.mp k).2.symm]; omega
/-- the moves from a deal to other numbers of lanes: as many as these cost, each from one with too many to one with too few,
none but wanted, and behind them all have the numbers that were asked for -/
theorem moves {ms : List σ} (d : ms.Nodup) (xs : List (τ × σ)) (hx : ∀ x ∈ xs, x.2 ∈ ms) (f : σ → Int) (f0 : ∀ n ∈ ms, 0 ≤ f n)
    (same : sumF f ms = sumF (fun n => cnt n xs) ms) :
    let sp := fun n => cnt n xs - f n
    let w := wants f (fun n => cnt n xs) ms
    ((mv sp w xs).length : Int) = sumF (fun n => max 0 (cnt n xs - f n)) ms ∧ (mv sp w xs).length = w.length ∧
      (∀ y ∈ mv sp w xs, (y.1, y.2.1) ∈ xs ∧ f y.2.1 < cnt y.2.1 xs ∧ y.2.2 ∈ ms ∧ cnt y.2.2 xs < f y.2.2) ∧
      (mv sp w xs).map (fun y => y.2.2) = w ∧ ∀ n ∈ ms, cnt n (bh sp w xs) = f n := by
  intro sp w
  have k : ∀ ns : List σ, (∀ n ∈ ns, 0 ≤ f n) → sumF (fun n => min (max 0 (sp n)) (cnt n xs)) ns = sumF (fun n => max 0 (cnt n xs - f n)) ns := by
    intro ns
    induction ns with
    | nil => intro _; rfl
    | cons n ns ih =>
      intro h
      unfold sumF
      rw [ih fun m hm => h m (List.mem_cons_of_mem _ hm)]
      have a := h n List.mem_cons_self
      have b := cnt_0 n xs
      show min (max 0 (cnt n xs - f n)) (cnt n xs) + _ = _
      omega
  have g : ∀ ns : List σ, sumF (fun n => max 0 (cnt n xs - f n)) ns - sumF (fun n => max 0 (f n - cnt n xs)) ns = sumF (fun n => cnt n xs) ns - sumF f ns := by
    intro ns
    induction ns with
    | nil => rfl
    | cons n ns ih => unfold sumF; omega
  have gm := g ms
  have wl : (w.length : Int) = _ := wants_len f (fun n => cnt n xs) ms
  have r := mv_bh (τ := τ) d xs sp w hx (by rw [k ms f0]; omega)
  rw [k ms f0] at r
  have len : (mv sp w xs).length = w.length := by have := r.1; omega
  refine ⟨r.1, len, fun y hy => ?_, ?_, fun n hn => ?_⟩
  · have a := r.2.1 y hy
    have b := wants_mem f (fun n => cnt n xs) ms _ a.2.2
    have c : 0 < cnt y.2.1 xs - f y.2.1 := a.2.1
    exact ⟨a.1, by omega, b.1, b.2⟩
  · rw [r.2.2.1, len, List.take_length]
  · rw [r.2.2.2 n, len, List.take_length, wants_cw f _ ms n d hn]
    have a := f0 n hn
    have b := cnt_0 n xs
    show cnt n xs - min (max 0 (cnt n xs - f n)) (cnt n xs) + max 0 (f n - cnt n xs) = f n
    omega
end DM
end
section
/-! A dict's entries put into another one, as a display with ** does it. -/
namespace MG
open PySem PySem.Spec PyProof.Rows
section
variable {prog : Program} {w : World} {K : Type} [DecidableEq K] {knd : KeyKind prog w K} {A : Around} {E : Value → Shared → Prop} {s : Shared}
theorem has_iff {kvs : List (K × Value)} {k : K} : (kvs.any fun kv => decide (kv.1 = k)) = decide (k ∈ kvs.map (·.1)) := by
  rw [Bool.eq_iff_iff, List.any_eq_true, decide_eq_true_iff, List.mem_map]
  exact ⟨fun ⟨x, h, e⟩ => ⟨x, h, of_decide_eq_true e⟩, fun ⟨x, h, e⟩ => ⟨x, h, decide_eq_true e⟩⟩
theorem put_entry {d : Addr} {kvs : List (K × Value)} {k : K} {key v : Value} {Q : Unit → Shared → Prop} (is : knd.is k key = true) (D : s.heap.DictOf knd d kvs) (few : kvs.length ≤ sizeLine)
    (q : ∀ h', h'.DictOf knd d (stored kvs k v) → Heap.SameBut d s.heap h' → Q () { s with heap := h' }) : wpAny (model prog w) A (dictPut d (knd.hash k) key v) Q E s := by
  obtain ⟨o, es, ep, at_, plain, data, keys, pairs, once⟩ := D
  have size : es.size ≤ sizeLine := by
    have a := pairs.length
    have b : es.toList.length = es.size := Array.length_toList
    omega
  have same : (es.findIdx? fun e => knd.is k e.key) = kvs.findIdx? fun kv => decide (kv.1 = k) := by
    rw [← pairs.findIdx k]
    cases es; simp
  unfold dictPut
  refine wpAny_bind (wpAny_dictFind_of is at_ data keys ?_)
  by_cases mem : k ∈ kvs.map (·.1)
  · have st : stored kvs k v = kvs.map fun kv => if kv.1 = k then (kv.1, v) else kv := by unfold stored; rw [if_pos (by rw [has_iff]; exact decide_eq_true mem)]
    cases found : es.findIdx? fun e => knd.is k e.key with
    | none => exact absurd mem (not_mem_of_findIdx_none (same ▸ found))
    | some i =>
      have at_i : (es.toList.findIdx? fun e => knd.is k e.key) = some i := by rw [← found]; cases es; simp
      have p := pairs.modify once at_i v
      refine wpAny_updateDict at_ data (q _ ⟨_, _, ep, Heap.get?_update_self _ at_ (Obj.isFreed_of_dict (Obj.data_mapDict data _)), plain.mapDict _, Obj.data_mapDict data _, keys.modify _ _, ?_, by rw [st, keys_map_store]; exact once⟩ (Heap.SameBut.update ..))
      rw [st]
      simpa using p
  · have st : stored kvs k v = kvs ++ [(k, v)] := by unfold stored; rw [if_neg (by rw [has_iff]; simpa using mem)]
    cases found : es.findIdx? fun e => knd.is k e.key with
    | some i => exact absurd mem (by
        have z := any_of_findIdx_some (same ▸ found)
        rw [has_iff] at z
        exact not_not_intro (of_decide_eq_true z))
    | none =>
      have p := pairs.append is (knd.hash k) v
      refine wpAny_updateDictKeys (hz := size) at_ data (q _ ⟨_, _, ep + 1, Heap.get?_update_self _ at_ (Obj.isFreed_of_dict (Obj.data_mapDictKeys data _)), plain.mapDictKeys _, Obj.data_mapDictKeys data _, keys.push is _, ?_, ?_⟩ (Heap.SameBut.update ..))
      · rw [st]
        simpa using p
      · rw [st, List.map_append, List.nodup_append]
        refine ⟨once, by simp, fun a ha b hb e => ?_⟩
        rw [List.map_cons, List.map_nil, List.mem_singleton] at hb
        exact mem (by have z : a = k := e.trans hb; rw [← z]; exact ha)
theorem merge_map {d o : Addr} {kvs more : List (K × Value)} {Q : Unit → Shared → Prop} (hdo : d ≠ o) (hoS : (o == sysModules) = false) (hd : s.heap.DictOf knd d kvs) (ho : s.heap.DictOf knd o more) (room : kvs.length + more.length ≤ sizeLine)
    (q : ∀ h', h'.DictOf knd d (merged kvs more) → Heap.SameBut d s.heap h' → Q () { s with heap := h' }) : wpAny (model prog w) A (mergeMapping d (.ref o) false) Q E s := by
  obtain ⟨od, esd, epd, ad, pd, dd, kd, prd, od1⟩ := id hd
  obtain ⟨oo, eso, epo, ao, po, doo, ko, pro, oo1⟩ := id ho
  unfold mergeMapping
  have nums : more.length = eso.size := by
    have a := pro.length
    have b : eso.toList.length = eso.size := Array.length_toList
    omega
  -- entry by entry
  have walk : wpAny (model prog w) A (do
      let l ← dictEntries o
      let epoch ← dictEpoch o
      forIn (List.range l.size) PUnit.unit fun i (_ : PUnit) => (do
        let l' ← dictEntries o
        match l'[i]? with
          | some e => do
            holding [e.key, e.val] (dictPut d e.hash e.key e.val)
            let now ← dictEpoch o
            if (now != epoch) = true then do
                (unsupported "dict.changed-during-merge" : Sem PUnit)
                pure (ForInStep.yield PUnit.unit)
              else pure (ForInStep.yield PUnit.unit)
          | _ => do
            (unsupported "dict.changed-during-merge" : Sem PUnit)
            pure (ForInStep.yield PUnit.unit) : Sem (ForInStep PUnit))
      pure ()) Q E s := by
    refine wpAny_bind (wpAny_dictEntries ao doo (wpAny_bind (wpAny_dictEpoch ao doo (wpAny_bind ?_))))
    refine wpAny_forIn_list _ (fun rest _ st => ∃ (h' : Heap) (n : Nat), st = { s with heap := h' } ∧ n ≤ eso.size ∧ rest = (List.range eso.size).drop n ∧ h'.DictOf knd d (merged kvs (more.take n)) ∧ h'.get? o = some oo ∧ Heap.SameBut d s.heap h') _ ?_ ?_ _ _ ⟨s.heap, 0, rfl, Nat.zero_le _, rfl, hd, ao, Heap.SameBut.refl _ _⟩
    · rintro x rest b st ⟨h', n, rfl, le, er, dict, atO, same⟩
      have lt : n < eso.size := by
        have z := congrArg List.length er
        rw [List.length_drop, List.length_range, List.length_cons] at z
        omega
      have head : x = n ∧ rest = (List.range eso.size).drop (n + 1) := by
        rw [List.drop_eq_getElem_cons (by rw [List.length_range]; exact lt), List.getElem_range] at er
        injection er with e1 e2
        exact ⟨e1, e2⟩
      obtain ⟨rfl, rest_⟩ := head
      have item : eso[x]? = some eso[x] := Array.getElem?_eq_getElem lt
      have inl : eso.toList[x]? = some eso[x] := by rw [Array.getElem?_toList]; exact item
      have lm : x < more.length := by omega
      have pair : more[x]? = some (more[x].1, more[x].2) := List.getElem?_eq_getElem lm
      obtain ⟨is, val⟩ := pro.get? inl pair
      obtain ⟨k', is', hash⟩ := ko eso[x] (Array.getElem_mem lt)
      have ek : k' = more[x].1 := knd.inj _ _ _ is' is
      subst ek
      refine wpAny_bind (wpAny_dictEntries atO doo ?_)
      rw [item]
      dsimp only
      have small : (merged kvs (more.take x)).length ≤ sizeLine := by
        have grow : ∀ (ys zs : List (K × Value)), (merged zs ys).length ≤ zs.length + ys.length := fun ys => by
          induction ys with
          | nil => intro zs; exact Nat.le_refl _
          | cons y ys ih =>
            intro zs
            have a := ih (stored zs y.1 y.2)
            have b := stored_length_le zs y.1 y.2
            show (merged (stored zs y.1 y.2) ys).length ≤ _
            rw [List.length_cons]; omega
        have a := grow (more.take x) kvs
        rw [List.length_take] at a
        omega
      rw [hash]
      refine wpAny_bind (wpAny_holding (put_entry is dict small fun h2 d2 s2 => ?_))
      have atO2 : h2.get? o = some oo := s2.2 o (Ne.symm hdo) ▸ atO
      refine wpAny_bind (wpAny_dictEpoch atO2 doo ?_)
      rw [if_neg (by simp)]
      refine wpAny_pure ⟨h2, x + 1, rfl, lt, rest_, ?_, atO2, same.trans s2⟩
      rw [List.take_add_one, pair]
      unfold merged at d2 ⊢
      rw [Option.toList_some, List.foldl_append]
      rw [val] at d2
      exact d2
    · rintro b st ⟨h', n, rfl, le, er, dict, atO, same⟩
      have full : n = eso.size := by
        have z := congrArg List.length er
        rw [List.length_drop, List.length_range, List.length_nil] at z
        omega
      rw [full, ← nums, List.take_length] at dict
      exact wpAny_pure (q h' dict same)
  refine wpAny_bind (wpAny_isInstance ho.typeIs isSubtype_dict_dict ?_)
  rw [if_pos rfl]
  refine wpAny_bind (wpAny_specialOf ho.typeIs F.slot_dict_iter.lookup ?_)
  refine wpAny_bind (wpAny_pure ?_)
  rw [show ((some (Value.builtin "dict.__iter__") : Option Value) == some (.builtin "dict.__iter__")) = true from by simp]
  dsimp only
  rw [if_neg (by rw [hoS]; exact Bool.false_ne_true)]
  refine wpAny_bind (wpAny_dictEntries ad dd ?_)
  split
  · refine wpAny_bind (wpAny_dictEntries ao doo (wpAny_bind ?_))
    rw [← Array.forIn_toList]
    refine wpAny_forIn_list _ (fun rest _ st => st = s ∧ ∀ e ∈ rest, e ∈ eso) _ ?_ ?_ _ _ ⟨rfl, fun e he => Array.mem_toList_iff.mp he⟩
    · rintro e rest b st ⟨rfl, all⟩
      obtain ⟨k, is, _⟩ := ko e (all e List.mem_cons_self)
      cases hk : e.key with
      | ref a =>
        rw [hk] at is
        exact absurd (knd.byValue k _ is) (fun z => by cases z)
      | _ => exact wpAny_pure ⟨rfl, fun e he => all e (List.mem_cons_of_mem _ he)⟩
    · rintro b st ⟨rfl, _⟩
      exact walk
  · exact walk
end
end MG
end
section
/-! {**a, **b} -/
namespace MG
open PySem PySem.Spec PyProof.Rows L2
def tMerge (t1 t2 : TE) : TE := fun σ H Q => ∀ d, H d = none → t1 σ (upd H d (.dK [])) fun x H1 => ∃ a kvs, x = .ref a ∧ a ≠ d ∧ H1 a = some (.dK kvs) ∧ H1 d = some (.dK []) ∧
  t2 σ (upd H1 d (.dK (mergeK [] kvs))) fun y H2 => ∃ b more, y = .ref b ∧ b ≠ d ∧ H2 b = some (.dK more) ∧ H2 d = some (.dK (mergeK [] kvs)) ∧ kvs.length + more.length ≤ sizeLine ∧ Q (.ref d) (upd H2 d (.dK (mergeK (mergeK [] kvs) more)))
section
variable {X : Cx} {e1 e2 : Expr} {t1 t2 : TE} {pos : Pos}
theorem merge_in {pins : List (Addr × Obj)} {σ : L2.St} {H : Hp} {s : Shared} {A : Around} {E : Value → Shared → Prop} {d a : Addr} {kvs more : List (Key × V)} {Q : Unit → Shared → Prop} (I : L2.Inv X pins σ H s) (hd : H d = some (.dK kvs)) (ha : H a = some (.dK more)) (ne : a ≠ d) (room : kvs.length + more.length ≤ sizeLine)
    (q : ∀ s', L2.Inv X pins σ (upd H d (.dK (mergeK kvs more))) s' → Q () s') : wpAny (model X.prog X.w) A (mergeMapping d (.ref a) false) Q E s := by
  obtain ⟨_, sysD, vs, rel, dict⟩ := I.hok d _ hd
  obtain ⟨_, sysA, ws, relA, dictA⟩ := I.hok a _ ha
  have l1 := rel.length
  have l2 := relA.length
  refine merge_map (Ne.symm ne) sysA dict dictA (by omega) fun h' dict' same => q _ ?_
  obtain ⟨o, es, ep, at_, _⟩ := id dict'
  exact d_write I (by rw [hd]; exact True.intro) same ⟨o, at_⟩ (dk_new (Nat.le_trans (length_mergeK more kvs) room) sysD (KV.merge relA rel) dict')
theorem pe_merge2 (h1 : PE X e1 t1) (h2 : PE X e2 t2) : PE X (.Dict [none, none] [e1, e2] pos) (tMerge t1 t2) := by
  refine ⟨fun pins s σ H Q I h => ?_⟩
  rw [arm_eval_Dict]
  refine wpAny_bind (wpAny_standAt ?_)
  show wpAny _ _ (dictDisplay [(none, do let x ← eval e1 X.env; standAt pos; pure x), (none, do let x ← eval e2 X.env; standAt pos; pure x)]) _ _ _
  unfold dictDisplay
  dsimp only
  rw [List.forIn_cons]
  refine wpAny_bind (wpAny_bind ?_)
  dsimp only
  refine wpAny_bind ?_
  rw [if_pos (show ([] : List (Sem Value × Sem Value)).isEmpty = true from rfl)]
  refine wpAny_pure ?_
  dsimp only
  refine wpAny_bind (wpAny_alloc (wpAny_bind (wpAny_holding (wpAny_bind ?_))))
  have nd : H s.heap.objs.size = none := I.hok.fresh (Nat.le_refl _)
  have I1 := I.laid (a := s.heap.objs.size) (o := .dK []) (t' := s.toks) (fun _ _ q => Heap.get?_push_of_some _ q) (Nat.le_refl _) (dk_empty s.heap I.big)
  refine thn (h1.run pins _ σ _ _ I1 (h _ nd)) fun u s1 ⟨x, H1, I2, r1, a, kvs, ex, ne, ha, hd, h2'⟩ => ?_
  subst ex
  obtain rfl : u = Value.ref a := r1
  have l1 : kvs.length ≤ sizeLine := (I2.hok a _ ha).1
  refine wpAny_bind (wpAny_standAt (wpAny_pure ?_))
  refine wpAny_bind (wpAny_onRaise (wpAny_tryCatch (wpAny_onRaise (wpAny_holding (merge_in I2 hd ha ne (by simpa using l1) fun s2 I3 => ?_)))))
  refine wpAny_pure ?_
  dsimp only
  rw [List.forIn_cons]
  refine wpAny_bind ?_
  dsimp only
  refine wpAny_bind ?_
  rw [if_pos (show ([] : List (Sem Value × Sem Value)).isEmpty = true from rfl)]
  refine wpAny_pure ?_
  dsimp only
  refine wpAny_bind (wpAny_pure (wpAny_bind (wpAny_holding (wpAny_bind ?_))))
  refine thn (h2.run pins s2 σ _ _ I3 h2') fun u s3 ⟨y, H2, I4, r2, b, more, ey, neb, hb, hd2, room, q⟩ => ?_
  subst ey
  obtain rfl : u = Value.ref b := r2
  have l2 := length_mergeK kvs []
  rw [List.length_nil, Nat.zero_add] at l2
  refine wpAny_bind (wpAny_standAt (wpAny_pure ?_))
  refine wpAny_bind (wpAny_onRaise (wpAny_tryCatch (wpAny_onRaise (wpAny_holding (merge_in I4 hd2 hb neb (by omega) fun s4 I5 => ?_)))))
  refine wpAny_pure ?_
  dsimp only
  rw [List.forIn_nil]
  refine wpAny_pure ?_
  dsimp only
  refine wpAny_bind ?_
  rw [if_pos (show ([] : List (Sem Value × Sem Value)).isEmpty = true from rfl)]
  refine wpAny_pure (wpAny_pure ?_)
  exact ⟨.ref s.heap.objs.size, _, I5, rfl, q⟩
end
end MG
end
section
/-! A dict that a loop's head makes is locked there; the list of a dict's values. -/
namespace DV
open PySem PySem.Spec PyProof.Rows L2
def tLockV (t : TE) : TE := fun σ H Q => t σ H fun x H1 => ∃ d u, x = .ref d ∧ H1 d = some u ∧ Mut (some u) ∧ ∀ od, Q x (upd H1 d (.frz od u))
def tVals (te : TE) : TE := fun σ H Q => te σ H fun x H1 => ∃ (d : Addr) (kvs : List (Key × V)), x = .ref d ∧ H1 d = some (.dK kvs) ∧ ∀ p, H1 p = none → Q (.ref p) (upd H1 p (.lst (kvs.map (·.2))))
theorem vals_of : ∀ {kvs : List (Key × V)} {vs : List (Key × Value)}, KV kvs vs → Vals (kvs.map (·.2)) (vs.map (·.2))
  | _, _, .nil => .nil
  | _, _, .cons h t => .cons h.2 (vals_of t)
section
variable {X : Cx} {e : Expr} {t : TE} {p apos cpos pos : Pos}
theorem pe_lockV (h : PE X e t) : PE X e (tLockV t) := by
  refine ⟨fun pins s σ H Q I q => thn (h.run pins s σ H _ I q) fun v s1 ⟨x, H1, I1, r, d, u, ex, hd, mu, go⟩ => ?_⟩
  obtain ⟨od, I2⟩ := I1.lock hd mu
  exact ⟨x, _, I2, r, go od⟩
theorem pe_listVals (calm : X.calm = true) (g : Gl X "list") (m : X.mg "list" = none) (b : bootBuiltins "list" = some (.type "list")) (h : PE X e t)
    (base : attributeBase e "values" X.env (eval e X.env) = eval e X.env := by rfl) (line : (apos.endLine == cpos.line) = true := by rfl)
    (star : starEach [.Call (.Attribute e "values" apos) [] [] cpos] X.env = (false, eval (.Call (.Attribute e "values" apos) [] [] cpos) X.env) :: starEach [] X.env := by rfl) :
    PE X (.Call (.Name "list" p) [.Call (.Attribute e "values" apos) [] [] cpos] [] pos) (tVals t) := by
  constructor
  intro pins s σ H Q I q
  refine wpAny_Call_Name_kw (ld_blt I g m b (callWith_type1 ?_ star rfl))
  rw [star]
  show wpAny _ _ (spliced (_ :: backTo pos (starEach [] X.env))) _ _ s
  apply Calls.spliced_cons
  refine wpAny_Call_method (T := "dict") (id := "dict.values") base rfl line F.plainAttrs_dict F.slot_dict_values F.type_dict_values (thn (h.run pins s σ H _ I q) fun u s1 z => ?_)
  obtain ⟨x, H1, I1, r, d, kvs, ex, at_, go⟩ := z
  subst ex
  cases (show u = Value.ref d from r)
  have ok := I1.hok d _ at_
  obtain ⟨few, sys, vs, kv, dict⟩ := id ok
  obtain ⟨ep, whole⟩ := dict.dictAt
  have len : kvs.length = vs.length := Paired.length kv
  refine ⟨dict.typeIs, dict.mapOf.noDict, ?_⟩
  show wpAny _ _ (callWith cpos (.builtin "dict.values") [.ref d] [] []) _ X.xe s1
  apply method_meetsIn F.slot_dict_values F.entry_dict_values rfl
  refine PySem.evalArgs_none ⟨rfl, dict.typeIs, F.args_dict_values_1 _, _, meets_dict_values (mixKind X.prog X.w) d sys, ⟨vs, dict⟩, Calls.spliced_nil ?_⟩
  have view : Inv X pins σ H1 { s1 with heap := s1.heap.push { cls := .type "dict_values", data := .fields #[.ref d] } } := I1.kept (t' := s1.toks) fun _ _ => Heap.get?_push_of_some _
  refine PySem.W.kdl_call (PySem.W.kdl_values (knd := mixKind X.prog X.w) (kvs := vs) (ep := ep)) (I1.ok.hd calm) ⟨⟨_, Heap.get?_push_size _ rfl, rfl, rfl⟩, whole.push _⟩ (by omega) fun h' tk acc c keep new items => ?_
  have list : acc.toList = vs.map (·.2) := PySem.W.kdl_vals_eq _ (by rw [Array.length_toList]; exact items.1) fun j v ev => items.2 j v (by rw [← Array.getElem?_toList]; exact ev)
  refine ⟨.ref _, _, view.laid (t' := tk) (o := .lst (kvs.map (·.2))) keep (Nat.le_refl _) ⟨by rw [List.length_map]; exact few, acc.toList, c, by rw [list]; exact vals_of kv, by rw [Array.toArray_toList]; exact new⟩, rfl, go _ (view.hok.fresh (Nat.le_refl _))⟩
end
end DV
end
section
/-! name = {..}; dict comprehensions over any walk. -/
namespace DV
open PySem PySem.Spec PyProof.Rows L2
section
variable {X : Cx}
/-- behind the block, kept under a name -/
theorem block_named {pins : List (Addr × Obj)} {σ : L2.St} {H : Hp} {s : Shared} {E : Ends} {D C : Addr} {m : PySem.Str → Option Value} {i : Nat} {y : PySem.Str} {py : Pos} (hN : X.N.Nodup) (hy : X.N[i]? = some y) (loc : X.env.scope.names.lookup y = some .local) (I : L2.Inv X pins σ H s) (q : E.nx (σ.set i (some (.ref D))) H)
    (ns : s.heap.Ns C m) (f : FpOk X pins H C) : compPost (model X.prog X.w) X.A X.xe (some (assign (.Name y py) X.env)) (fun _ s' => L2.SP X pins E .next s') (.ref D) C (.ok .next) s := by
  obtain ⟨none_, here, frame, young, cells, pinned⟩ := f
  refine wpAny_assign_Name (store_ok2 (v := V.ref D) I hN hy (.inl loc) rfl (fun s2 I2 ⟨a, sb, which⟩ => ⟨m, ns.sameBut sb (fun e => ?_), fun h3 sb3 => ⟨_, H, I2.turned (t' := s2.toks) (fun b o ne z => (sb3.2 b ne).trans z) none_ here young cells pinned, q⟩⟩) (.inr loc))
  rcases which with z | z
  · exact here (e.trans z)
  · exact cells y a z e.symm
theorem sw_dict {kx vx : Expr} {gs : List Comprehension} {scope : Scope} {pos py : Pos} {y : PySem.Str} {l : Nat} {env : Env} (fn : env.scope.kind = .function) (loc : env.scope.names.lookup y = some .local) (row : (py.line == pos.line) = true)
    (own : (scope.names.any fun (n, k) => n == y && (k == .local || k == .cell)) = false) : swapsWith (.DictComp kx vx gs scope pos) (some (.Name y py)) l env = pure true := by
  have kind : env.kindOf y = some .local := loc
  have block : env.blockKind = .function := by
    unfold Env.blockKind
    rw [fn]; rfl
  unfold swapsWith
  simp only [block, kind, own, Expr.pos, row]
  rfl
theorem ps_setDc {i : Nat} {y : PySem.Str} {py : Pos} {kx vx tg iter : Expr} {ifs : List Expr} {scope : Scope} {own : List (PySem.Str × Nat)} {pos spos : Pos} {wi : TI} {g : TG} {tt : TT} {tk tv : TE} (hc : X.calm = true) (hN : X.N.Nodup) (hy : X.N[i]? = some y) (loc : X.env.scope.names.lookup y = some .local)
    (sw : swapsWith (.DictComp kx vx [⟨tg, iter, ifs, 0⟩] scope pos) (some (.Name y py)) spos.line X.env = pure true) (hi : PI X tg iter wi) (ok : BlkOk X.N X.env.scope scope own)
    (hg : ∀ (s : Shared) (H : Hp) (C : Addr) (cl : List (PySem.Str × Addr)) (fp : List Addr), PG (X.blk s H scope (compEnvC scope cl C X.env) fp) tg g) (ht : ∀ (s : Shared) (H : Hp) (C : Addr) (cl : List (PySem.Str × Addr)) (fp : List Addr), PTs (X.blk s H scope (compEnvC scope cl C X.env) fp) ifs tt)
    (hk : ∀ (s : Shared) (H : Hp) (C : Addr) (cl : List (PySem.Str × Addr)) (fp : List Addr), PE (X.blk s H scope (compEnvC scope cl C X.env) fp) kx tk)
    (he : ∀ (s : Shared) (H : Hp) (C : Addr) (cl : List (PySem.Str × Addr)) (fp : List Addr), PE (X.blk s H scope (compEnvC scope cl C X.env) fp) vx tv) (hs : ∀ x, foldedSetIterable iter X.env x = pure x := by intro _; rfl) :
    PS X (.Assign [.Name y py] (.DictComp kx vx [⟨tg, iter, ifs, 0⟩] scope pos) spos) (tAsg (tDc wi g tt tk tv (own.map (·.2))) (gName i)) := by
  constructor
  intro pins s σ H E I h
  rw [exec_Assign_Name_used _ _ _ _ sw]
  refine wpAny_bind (wpAny_standAt (wpAny_bind ?_))
  have h : tDc wi g tt tk tv (own.map (·.2)) σ H (fun x H1 => gName i x σ H1 E.nx) := h
  exact wpAny_bind (thn (dc_core (use := some (assign (.Name y py) X.env)) (Qf := fun _ s' => L2.SP X pins E .next s') hc hN I hi ok hg ht hk he hs h fun D C s' m H' I' q ns f => block_named hN hy loc I' q ns f) fun _ s' q => wpAny_pure (wpAny_pure q))
end
/-- over any walk -/
theorem dc_it {J : It} {n : Nat} {G : Hp → Prop} {Y : Nat → Hp → V → Hp → Prop} (w : Walk J n G Y) {g : TG} {tt : TT} {tk tv : TE} {vs : List Nat} {σ : L2.St} {H1 : Hp} {D : Addr} {Qd : Hp → Prop} (I : Nat → Hp → Prop) (begins : I 0 (upd H1 D (.dK []))) (stays : ∀ i H, i ≤ n → I i H → G H)
    (turn : ∀ i x H H', i < n → I i H → Y i H x H' → g x (wipe σ vs) H' fun σ2 H2 => wipe σ2 vs = wipe σ vs ∧ tt σ2 H2 fun b H3 =>
      if b = true then tk σ2 H3 fun y H4 => tv σ2 H4 fun z H5 => ∃ kvs k, y = kV k ∧ H5 D = some (.dK kvs) ∧ kvs.length < sizeLine ∧ I (i + 1) (upd H5 D (.dK (putK kvs k z))) else I (i + 1) H3) (ends : ∀ H, I n H → Qd H) :
    ∃ U : Nat → Nat → Hp → Prop, (∃ many, U 0 many (upd H1 D (.dK []))) ∧ ∀ j many h, U j many h → (J.stop j h ∧ Qd h) ∨
      (J.go j h ∧ ∃ After : Hp → Prop, (∀ h', After h' → ∃ fewer, fewer < many ∧ U (j + 1) fewer h') ∧
        ∀ it h', J.yld j h it h' → g it (wipe σ vs) h' fun τ h2 => wipe τ vs = wipe σ vs ∧ tt τ h2 fun yes h3 =>
          if yes = true then tk τ h3 fun key h4 => tv τ h4 fun val h5 => ∃ kvs k, key = kV k ∧ h5 D = some (.dK kvs) ∧ kvs.length < sizeLine ∧ After (upd h5 D (.dK (putK kvs k val)))
          else After h3) := by
  refine ⟨fun i m H => i ≤ n ∧ I i H ∧ n - i = m, ⟨n, Nat.zero_le n, begins, Nat.sub_zero n⟩, fun i m H h => ?_⟩
  obtain ⟨le, inv, rest⟩ := h
  rcases Nat.eq_or_lt_of_le le with last | more
  · subst last
    exact Or.inl ⟨w.stops H (stays i H (Nat.le_refl i) inv), ends H inv⟩
  · have gs := stays i H le inv
    refine Or.inr ⟨w.goes i H more gs, I (i + 1), fun H' inv' => ⟨m - 1, ?_, more, inv', ?_⟩, fun x H' y => turn i x H H' more inv (w.yields i H x H' more gs y)⟩
    · omega
    · omega
end DV
namespace MX
open PySem PySem.Spec PyProof.Rows L2
theorem call_lenK {X : Cx} {K : PySem.W.Frag} (hK : X.K = K) : CallR X (.builtin "len") (fun xs H Q => ∃ p ys, xs = [V.ref p] ∧ (SqL K H p ys ∨ SqT K H p ys) ∧ Q (V.int ys.length) H) := by
  subst hK
  exact call_len_seq
end MX
end
section
/-! Numbers by names, as dicts; the readers of a deal. -/
namespace KD
open PySem L2 DM
/-- the dict from names to their numbers -/
def tab (c : Str → Int) (ns : List Str) : List (Key × V) := ns.map fun n => (.inr n, .int (c n))
theorem tab_len (c : Str → Int) (ns : List Str) : (tab c ns).length = ns.length := List.length_map _
theorem tab_congr {c d : Str → Int} {ns : List Str} (h : ∀ n ∈ ns, c n = d n) : tab c ns = tab d ns := List.map_congr_left fun n hn => by rw [h n hn]
theorem tab_get {c : Str → Int} {ns : List Str} {i : Nat} {k : Key} {x : V} (h : (tab c ns)[i]? = some (k, x)) : ∃ n, ns[i]? = some n ∧ k = .inr n ∧ x = .int (c n) := by
  unfold tab at h
  rw [List.getElem?_map] at h
  cases e : ns[i]? with
  | none => rw [e] at h; cases h
  | some n => rw [e] at h; cases h; exact ⟨n, rfl, rfl, rfl⟩
theorem tab_any (c : Str → Int) (r : Str) : ∀ ns : List Str, ((tab c ns).any fun kv => decide (kv.1 = .inr r)) = decide (r ∈ ns)
  | [] => by simp [tab]
  | n :: ns => by
    have ih := tab_any c r ns
    unfold tab at ih ⊢
    rw [List.map_cons, List.any_cons, ih, Bool.eq_iff_iff, Bool.or_eq_true, decide_eq_true_iff, decide_eq_true_iff, decide_eq_true_iff, List.mem_cons]
    constructor
    · rintro (h | h)
      · exact .inl (Sum.inr.inj h).symm
      · exact .inr h
    · rintro (h | h)
      · exact .inl (by rw [h])
      · exact .inr h
theorem put_tab (c : Str → Int) (ns : List Str) (r : Str) (x : Int) : putK (tab c ns) (.inr r) (.int x) = tab (fun n => if n = r then x else c n) (if r ∈ ns then ns else ns ++ [r]) := by
  unfold putK
  rw [tab_any]
  by_cases h : r ∈ ns
  · rw [if_pos (decide_eq_true h), if_pos h]
    unfold tab
    rw [List.map_map]
    refine List.map_congr_left fun n _ => ?_
    show (if (Sum.inr n : Key) = .inr r then ((Sum.inr n : Key), V.int x) else (.inr n, .int (c n))) = (.inr n, .int (if n = r then x else c n))
    by_cases q : n = r
    · rw [if_pos (by rw [q]), if_pos q]
    · rw [if_neg fun z => q (Sum.inr.inj z), if_neg q]
  · rw [if_neg (by rw [decide_eq_false h]; exact Bool.false_ne_true), if_neg h]
    have e : tab c ns = tab (fun n => if n = r then x else c n) ns := tab_congr fun n hn => (if_neg (fun z : n = r => h (z ▸ hn))).symm
    rw [e]
    unfold tab
    rw [List.map_append, List.map_cons, List.map_nil]
    dsimp only
    rw [if_pos rfl]
theorem put_same (c : Str → Int) (ns : List Str) (r : Str) (h : r ∉ ns) : putK (tab c ns) (.inr r) (.int (c r)) = tab c (ns ++ [r]) := by
  rw [put_tab, if_neg h]
  refine tab_congr fun n _ => ?_
  by_cases q : n = r
  · rw [if_pos q, q]
  · rw [if_neg q]
theorem val_tab (c : Str → Int) (r : Str) : ∀ ns : List Str, valV (tab c ns) (.inr r) = if r ∈ ns then some (.int (c r)) else none
  | [] => by rw [if_neg List.not_mem_nil]; rfl
  | n :: ns => by
    have ih := val_tab c r ns
    unfold valV tab at ih ⊢
    rw [List.map_cons, List.find?_cons]
    by_cases q : n = r
    · rw [show decide (((Sum.inr n : Key), V.int (c n)).1 = .inr r) = true from decide_eq_true (by rw [q]), if_pos (by rw [q]; exact List.mem_cons_self), q]; rfl
    · rw [show decide (((Sum.inr n : Key), V.int (c n)).1 = .inr r) = false from decide_eq_false fun z => q (Sum.inr.inj z)]
      refine Eq.trans ih ?_
      by_cases m : r ∈ ns
      · rw [if_pos m, if_pos (List.mem_cons_of_mem _ m)]
      · rw [if_neg m, if_neg fun z => (List.mem_cons.mp z).elim (fun e => q e.symm) m]
theorem merge_tab (c : Str → Int) : ∀ (ms ns : List Str), (∀ m ∈ ms, m ∉ ns) → ms.Nodup → mergeK (tab c ns) (tab c ms) = tab c (ns ++ ms)
  | [], ns, _, _ => by rw [List.append_nil]; rfl
  | m :: ms, ns, h, d => by
    have d' := List.nodup_cons.mp d
    show mergeK (putK (tab c ns) (.inr m) (.int (c m))) (tab c ms) = _
    rw [put_same c ns m (h m List.mem_cons_self), merge_tab c ms (ns ++ [m]) (fun x hx z => (List.mem_append.mp z).elim (h x (List.mem_cons_of_mem _ hx)) fun e => d'.1 (List.mem_singleton.mp e ▸ hx)) d'.2, List.append_assoc]; rfl
theorem merge_nil (c : Str → Int) (ms : List Str) (d : ms.Nodup) : mergeK [] (tab c ms) = tab c ms := by
  have := merge_tab c ms [] (fun _ _ => List.not_mem_nil) d
  rw [List.nil_append] at this; exact this
/-- the readers of a deal, in the order in which they come -/
def rdrs (ds : List (Str × Str)) : List Str := ds.foldl (fun acc d => if d.2 ∈ acc then acc else acc ++ [d.2]) []
theorem rdrs_snoc (ds : List (Str × Str)) (d : Str × Str) : rdrs (ds ++ [d]) = if d.2 ∈ rdrs ds then rdrs ds else rdrs ds ++ [d.2] := by unfold rdrs; rw [List.foldl_append]; rfl
theorem snoc_ind {α : Type} {Q : List α → Prop} (h0 : Q []) (hs : ∀ xs x, Q xs → Q (xs ++ [x])) (xs : List α) : Q xs := by
  have : ∀ ys : List α, Q ys.reverse := fun ys => by
    induction ys with
    | nil => exact h0
    | cons y ys ih => rw [List.reverse_cons]; exact hs _ _ ih
  rw [← List.reverse_reverse xs]; exact this _
theorem cnt_snoc (n : Str) (x : Str × Str) : ∀ xs : List (Str × Str), cnt n (xs ++ [x]) = cnt n xs + if x.2 = n then 1 else 0
  | [] => by show (if x.2 = n then 1 else 0) + (0 : Int) = 0 + _; omega
  | y :: xs => by
    show (if y.2 = n then 1 else 0) + cnt n (xs ++ [x]) = ((if y.2 = n then 1 else 0) + cnt n xs) + _
    rw [cnt_snoc n x xs]; omega
theorem mem_rdrs (n : Str) (ds : List (Str × Str)) : n ∈ rdrs ds ↔ ∃ d ∈ ds, d.2 = n := by
  refine snoc_ind (Q := fun ds => n ∈ rdrs ds ↔ ∃ d ∈ ds, d.2 = n) ?_ (fun ds d ih => ?_) ds
  · simp [rdrs]
  · rw [rdrs_snoc]
    have split_ : (∃ e ∈ ds ++ [d], e.2 = n) ↔ n ∈ rdrs ds ∨ d.2 = n := by
      rw [ih]
      constructor
      · rintro ⟨e, he, q⟩
        rcases List.mem_append.mp he with z | z
        · exact .inl ⟨e, z, q⟩
        · rw [List.mem_singleton.mp z] at q; exact .inr q
      · rintro (⟨e, he, q⟩ | q)
        · exact ⟨e, List.mem_append_left _ he, q⟩
        · exact ⟨d, List.mem_append_right _ (List.mem_singleton.mpr rfl), q⟩
    rw [split_]
    by_cases h : d.2 ∈ rdrs ds
    · rw [if_pos h]
      exact ⟨.inl, fun z => z.elim id fun q => q ▸ h⟩
    · rw [if_neg h, List.mem_append, List.mem_singleton]
      exact ⟨fun z => z.imp id Eq.symm, fun z => z.imp id Eq.symm⟩
theorem rdrs_nodup (ds : List (Str × Str)) : (rdrs ds).Nodup := by
  refine snoc_ind (Q := fun ds => (rdrs ds).Nodup) List.nodup_nil (fun ds d ih => ?_) ds
  rw [rdrs_snoc]
  by_cases h : d.2 ∈ rdrs ds
  · rw [if_pos h]; exact ih
  · rw [if_neg h]
    refine List.nodup_append.mpr ⟨ih, List.pairwise_singleton _ _, fun a ha b hb e => ?_⟩
    rw [List.mem_singleton.mp hb] at e
    exact h (e ▸ ha)
theorem rdrs_len (ds : List (Str × Str)) : (rdrs ds).length ≤ ds.length := by
  refine snoc_ind (Q := fun ds => (rdrs ds).length ≤ ds.length) (Nat.le_refl _) (fun ds d ih => ?_) ds
  rw [rdrs_snoc, List.length_append, List.length_singleton]
  split
  · omega
  · rw [List.length_append, List.length_singleton]; omega
theorem cnt_none {n : Str} : ∀ ds : List (Str × Str), (∀ d ∈ ds, d.2 ≠ n) → cnt n ds = 0
  | [], _ => rfl
  | d :: ds, h => by
    show (if d.2 = n then 1 else 0) + cnt n ds = 0
    rw [if_neg (h d List.mem_cons_self), cnt_none ds fun e he => h e (List.mem_cons_of_mem _ he)]; rfl
theorem cnt_out {n : Str} {ds : List (Str × Str)} (h : n ∉ rdrs ds) : cnt n ds = 0 := cnt_none ds fun d hd e => h ((mem_rdrs n ds).mpr ⟨d, hd, e⟩)
theorem numOf_tab (c : Str → Int) (ns : List Str) (r : Str) : numOf (tab c ns) r = if r ∈ ns then c r else 0 := by
  unfold numOf
  rw [val_tab]
  by_cases h : r ∈ ns
  · rw [if_pos h, if_pos h]
  · rw [if_neg h, if_neg h]
theorem loads_tab (ds : List (Str × Str)) : loadsV (ds.map (·.2)) = tab (fun n => cnt n ds) (rdrs ds) := by
  refine snoc_ind (Q := fun ds => loadsV (ds.map (·.2)) = tab (fun n => cnt n ds) (rdrs ds)) rfl (fun ds d ih => ?_) ds
  rw [List.map_append, List.map_cons, List.map_nil, loadsV_snoc, ih, more1, put_tab, rdrs_snoc, numOf_tab]
  refine tab_congr fun n _ => ?_
  rw [cnt_snoc]
  by_cases q : n = d.2
  · rw [if_pos q, if_pos q.symm, q]
    by_cases h : d.2 ∈ rdrs ds
    · rw [if_pos h]
    · rw [if_neg h, cnt_out h]
  · rw [if_neg q, if_neg fun z => q z.symm]; omega
/-- all readers: those of a deal, then those that bounds tell besides -/
def alls (ds : List (Str × Str)) (bs : List Str) : List Str := rdrs ds ++ bs.filter fun n => decide (n ∉ rdrs ds)
theorem alls_nodup {ds : List (Str × Str)} {bs : List Str} (d : bs.Nodup) : (alls ds bs).Nodup :=
  List.nodup_append.mpr ⟨rdrs_nodup ds, d.filter _, fun a ha b hb e => of_decide_eq_true (List.mem_filter.mp hb).2 (e ▸ ha)⟩
theorem mem_alls {n : Str} {ds : List (Str × Str)} {bs : List Str} : n ∈ alls ds bs ↔ n ∈ rdrs ds ∨ n ∈ bs := by
  unfold alls
  rw [List.mem_append, List.mem_filter, decide_eq_true_iff]
  constructor
  · rintro (h | h)
    · exact .inl h
    · exact .inr h.1
  · intro h
    by_cases q : n ∈ rdrs ds
    · exact .inl q
    · exact .inr ⟨h.resolve_left q, q⟩
theorem alls_len (ds : List (Str × Str)) (bs : List Str) : (alls ds bs).length ≤ ds.length + bs.length := by
  unfold alls
  rw [List.length_append]
  have a := rdrs_len ds
  have b := List.length_filter_le (fun n => decide (n ∉ rdrs ds)) bs
  omega
end KD
end
section
/-! Deals: the numbers of lanes of all readers; whether they are within bounds. -/
namespace KD
open PySem L2 DM
/-- bounds: names with the least and the greatest number -/
structure Bds (H : Hp) (bp : Addr) (bs : List Str) (lo hi : Str → Int) : Prop where
  at_ : ∃ bk, H bp = some (.dK bk) ∧ bk.map (·.1) = bs.map Sum.inr ∧ ∀ r, BoundIs H bk r (lo r) (hi r)
  once : bs.Nodup
  few : bs.length ≤ 12
  ok : ∀ n, 0 ≤ lo n ∧ lo n ≤ hi n ∧ hi n ≤ 60
theorem Bds.same {H H' : Hp} {bp : Addr} {bs : List Str} {lo hi : Str → Int} (h : Bds H bp bs lo hi) (e : Same H H') : Bds H' bp bs lo hi :=
  ⟨let ⟨bk, h1, h2, h3⟩ := h.at_; ⟨bk, e _ _ h1, h2, fun r => (h3 r).same fun a o z _ => e a o z⟩, h.once, h.few, h.ok⟩
/-- a deal -/
structure DealAt (H : Hp) (p : Addr) (ds : List (Str × Str)) : Prop where
  at_ : H p = some (.dK (dealV ds))
  once : (ds.map (·.1)).Nodup
  few : ds.length ≤ 60
theorem DealAt.same {H H' : Hp} {p : Addr} {ds : List (Str × Str)} (h : DealAt H p ds) (e : Same H H') : DealAt H' p ds := ⟨e _ _ h.at_, h.once, h.few⟩
/-- what is locked goes back -/
theorem same_back {H H' : Hp} {d : Addr} {u : HO} (h : H d = some u) (k : ∀ b o, H b = some o → b ≠ d → H' b = some o) : Same H (upd H' d u) := fun b o z => by
  by_cases q : b = d
  · subst q; rw [upd_same, ← h]; exact z
  · rw [upd_ne q]; exact k b o z q
theorem keys_get {bk : List (Key × V)} {bs : List Str} (h : bk.map (·.1) = bs.map Sum.inr) {i : Nat} {k : Key} {v : V} (e : bk[i]? = some (k, v)) : ∃ n, bs[i]? = some n ∧ k = .inr n := by
  have z : (bk.map (·.1))[i]? = some k := by rw [List.getElem?_map, e]; rfl
  rw [h, List.getElem?_map] at z
  cases q : bs[i]? with
  | none => rw [q] at z; cases z
  | some n => rw [q] at z; exact ⟨n, rfl, (Option.some.inj z).symm⟩
theorem keys_len {bk : List (Key × V)} {bs : List Str} (h : bk.map (·.1) = bs.map Sum.inr) : bk.length = bs.length := by
  have := congrArg List.length h
  rw [List.length_map, List.length_map] at this; exact this
theorem DGet.kr {H : Hp} {a : Addr} {kvs : List (Key × V)} {k : Key} (e : Rd H a (.dK kvs)) : DGet H a (kV k) (valV kvs k) := .inl ⟨kvs, k, e, rfl, rfl⟩
/-- what is told of a reader, or (0, 0) -/
theorem bound_at {H : Hp} {bk : List (Key × V)} {r : Str} {lo hi : Int} {t : Addr} (b : BoundIs H bk r lo hi) (nt : H t = none) : ∃ a, (valV bk (.inr r)).getD (.ref t) = .ref a ∧ (upd H t (.tup [.int 0, .int 0])) a = some (.tup [.int lo, .int hi]) := by
  rcases b with ⟨b1, b2, b3⟩ | ⟨a, b1, b2⟩
  · rw [b1, b2, b3]; exact ⟨t, rfl, upd_same⟩
  · rw [b1]; exact ⟨a, rfl, made' nt _ _ b2⟩
theorem BoundIs.sm {H H' : Hp} {bk : List (Key × V)} {r : Str} {lo hi : Int} (h : BoundIs H bk r lo hi) (e : Same H H') : BoundIs H' bk r lo hi := h.same fun a o z _ => e a o z
theorem take_all {α : Type} {xs : List α} {i : Nat} {n : α} (h : xs[i]? = some n) {p : α → Prop} (old : ∀ m ∈ xs.take i, p m) (new : p n) : ∀ m ∈ xs.take (i + 1), p m := by
  rw [List.take_succ, h, Option.toList_some]
  intro m hm
  rcases List.mem_append.mp hm with z | z
  · exact old m z
  · rw [List.mem_singleton.mp z]; exact new
def spAll : Sp := fun vs H Q _ => ∃ (p bp : Addr) (ds : List (Str × Str)) (bs : List Str) (lo hi : Str → Int), vs = [.ref p, .ref bp] ∧ DealAt H p ds ∧ Bds H bp bs lo hi ∧
  ∀ H' L, Same H H' → H L = none → H' L = some (.dK (tab (fun n => cnt n ds) (alls ds bs))) → Q (.ref L) H'
/-- where a function stands -/
structure At (K : PySem.W.Frag) (mg : Str → Option Value) (name : Str) (f : Addr) : Prop where
  g : mg name = some (.ref f)
  k : PySem.W.keepIn K (.ref f) = true
def Inn (ds : List (Str × Str)) (bs : List Str) (lo hi : Str → Int) : Prop := ∀ n ∈ alls ds bs, lo n ≤ cnt n ds ∧ cnt n ds ≤ hi n
open Classical in
noncomputable def innB (ds : List (Str × Str)) (bs : List Str) (lo hi : Str → Int) : Bool := decide (Inn ds bs lo hi)
def spWithin : Sp := fun vs H Q _ => ∃ (p bp : Addr) (ds : List (Str × Str)) (bs : List Str) (lo hi : Str → Int), vs = [.ref p, .ref bp] ∧ DealAt H p ds ∧ Bds H bp bs lo hi ∧
  ∀ H' b, Same H H' → (b = true ↔ Inn ds bs lo hi) → Q (.bl b) H'
section
variable {P : Program} {w : World} {K : PySem.W.Frag} {mg : Str → Option Value} {base : Heap}
abbrev sAll : Stmt := top 26
abbrev nAll : List Str := ["deal", "bounds", "loads", "reader"]
theorem scAll : FnScope nAll ["deal", "bounds"] (defScope sAll) := ⟨rfl, rfl, rfl, by decide +kernel, rfl, by decide +kernel, by decide +kernel⟩
theorem ok_all {f fL : Addr} {fd fdL : FuncData} (F : Fun K "all_loads" "all_loads" sAll f fd) (A_loads_of : At K mg "loads_of" fL) (G_loads_of : FnOk P w K mg base CX0 2 fL fdL ["deal"] spLoads) (b_loads_of : Binds K fdL ["deal"] []) : FnOk P w K mg base CX0 3 f fd ["deal", "bounds"] spAll := by
  refine F.ok scAll (fun vs H Q E h => ?_) (fun cdv A outer s H vs Q E hr h => ?_)
  · obtain ⟨p, bp, ds, bs, lo, hi, rfl, _⟩ := h
    rfl
  · obtain ⟨p, bp, ds, bs, lo, hi, rfl, hd, hb, k⟩ := h
    have nd := scAll.nd
    have hr_loads_of : Room 2 _ := hr
    have hu1 : _ < cLine := hr.in1.units0
    refine ⟨_, (pss_cons (ps_set (i := 2) nd rfl (Or.inr rfl) (pe_call G_loads_of hr_loads_of (by rfl) A_loads_of.g A_loads_of.k b_loads_of .nil pass0 (pa_cons (pv 0) pa_nil)))
      (pss_one (ps_ret (MG.pe_merge2 (pv 2) (pe_lock (pe_dc (own := [("reader", 3)]) (by rfl) nd (pi_keys (pv 1)) (blkOk_by (N := nAll) (sc := defScope sAll) (by decide +kernel)) (fun _ _ _ _ _ => (pg_name (i := 3) nd rfl (Or.inl rfl))) (fun _ _ _ _ _ => pts_one (pt_cmp (pc_dnotin hu1 (pv 3) (pv 2)))) (fun _ _ _ _ _ => (pv 3)) (fun _ _ _ _ _ => pe_int))))))), ?_⟩
    refine into ⟨_, rfl, p, ds, rfl, hd.at_, hd.few, fun H1 L e1 nL hL => ?_⟩
    rw [loads_tab] at hL
    have hb1 := hb.same e1
    intro M nM
    have nLM : L ≠ M := fun q => by rw [q, nM] at hL; cases hL
    refine ⟨_, rfl, L, _, rfl, nLM, made' nM _ _ hL, upd_same, ?_⟩
    rw [merge_nil _ _ (rdrs_nodup ds)]
    obtain ⟨bk, hk, keys, bnd⟩ := hb1.at_
    have e0 : Same H1 (upd (upd H1 M (.dK [])) M (.dK (tab (fun n => cnt n ds) (rdrs ds)))) := put_in (made' nM) nM
    have hM0 : (upd (upd H1 M (.dK [])) M (.dK (tab (fun n => cnt n ds) (rdrs ds)))) M = some (.dK (tab (fun n => cnt n ds) (rdrs ds))) := upd_same
    generalize upd (upd H1 M (.dK [])) M (.dK (tab (fun n => cnt n ds) (rdrs ds))) = H2 at e0 hM0 ⊢
    have hk2 := e0 _ _ hk
    refine ⟨bp, _, hk2, trivial, fun od => ⟨_, rfl, bp, od, rfl, .inl ⟨bk, upd_same, fun D nD => ?_⟩⟩⟩
    have nb : bp ≠ D := fun q => by rw [← q, upd_same] at nD; cases nD
    have nD2 : H2 D = none := by rw [upd_ne nb.symm] at nD; exact nD
    have nLb : L ≠ bp := fun q => by rw [q, hb1.at_.choose_spec.1] at hL; exact absurd nL (by rw [q]; obtain ⟨bk', z, _⟩ := hb.at_; rw [z]; exact fun y => by cases y)
    have rest := fun i => (bs.take i).filter fun n => decide (n ∉ rdrs ds)
    refine DV.dc_it walk_keys (fun i H' => H' bp = some (.frz od (.dK bk)) ∧ H' D = some (.dK (tab (fun n => cnt n ds) ((bs.take i).filter fun n => decide (n ∉ rdrs ds)))) ∧ ∀ b o, H2 b = some o → b ≠ bp → H' b = some o) ⟨by rw [upd_ne nb, upd_same], by rw [upd_same, List.take_zero]; rfl, fun b o z n => by rw [upd_ne (ne_of_none z nD2), upd_ne n]; exact z⟩ (fun i H' _ z => z.1) ?_ ?_
    · rintro i x H3 H4 hi ⟨z1, z2, z3⟩ ⟨rfl, k', v, hx, rfl⟩
      obtain ⟨n, hn, rfl⟩ := keys_get keys hx
      have hL3 := z3 _ _ (e0 _ _ hL) nLb
      refine ⟨rfl, _, rfl, _, rfl, L, _, rfl, DGet.k (k := .inr n) hL3, ?_⟩
      rw [val_tab]
      have few : ((bs.take i).filter fun n => decide (n ∉ rdrs ds)).length ≤ 12 := Nat.le_trans (List.length_filter_le _ _) (by rw [List.length_take]; have := hb.few; omega)
      by_cases q : n ∈ rdrs ds
      · rw [if_pos q]
        refine ⟨false, rfl, iteF ⟨z1, ?_, z3⟩⟩
        rw [z2, List.take_succ, hn, Option.toList_some, List.filter_append, List.filter_cons, if_neg (by simpa using q), List.filter_nil, List.append_nil]
      · rw [if_neg q]
        refine ⟨true, rfl, iteT ⟨_, rfl, _, .inr n, rfl, z2, by rw [tab_len, sizeLine_eq]; omega, by rw [upd_ne nb]; exact z1, ?_, fun b o z n => by rw [upd_ne (ne_of_none z nD2)]; exact z3 b o z n⟩⟩
        rw [upd_same]
        have new : n ∉ (bs.take i).filter fun n => decide (n ∉ rdrs ds) := fun h => by
          obtain ⟨j, hj⟩ := List.mem_iff_getElem?.mp (List.mem_filter.mp h).1
          have lt : j < i := by
            rcases Nat.lt_or_ge j i with l | g
            · exact l
            · rw [List.getElem?_eq_none (by rw [List.length_take]; omega)] at hj; cases hj
          rw [List.getElem?_take_of_lt lt] at hj
          exact Nat.ne_of_lt lt ((List.getElem?_inj (List.getElem?_eq_some_iff.mp hj).1 hb.once).mp (hj.trans hn.symm))
        have := put_same (fun n => cnt n ds) _ n new
        rw [cnt_out q] at this
        rw [this, List.take_succ, hn, Option.toList_some, List.filter_append, List.filter_cons, if_pos (by simpa using q), List.filter_nil]
    · rintro H3 ⟨z1, z2, z3⟩
      rw [keys_len keys, List.take_length] at z2
      have nMb : M ≠ bp := fun q => by rw [q, hk] at nM; cases nM
      have nDM : D ≠ M := fun q => by rw [q, hM0] at nD2; cases nD2
      refine ⟨z1, D, _, rfl, nDM, by rw [upd_ne nb.symm]; exact z2, by rw [upd_ne nMb]; exact z3 _ _ hM0 nMb, ?_, ?_⟩
      · rw [tab_len, tab_len, sizeLine_eq]
        have a := rdrs_len ds
        have b := hd.few
        have c := List.length_filter_le (fun n => decide (n ∉ rdrs ds)) bs
        have d := hb.few
        omega
      · rw [merge_tab _ _ _ (fun m hm => of_decide_eq_true (List.mem_filter.mp hm).2) (hb.once.filter _)]
        refine k _ M (put_in (e1.trans (e0.trans (same_back hk2 z3))) ?_) ?_ upd_same
        · exact e1.free nM
        · exact e1.free nM
abbrev sWithin : Stmt := top 27
theorem scWithin : FnScope ["deal", "bounds", "reader", "many", "low", "high"] ["deal", "bounds"] (defScope sWithin) := ⟨rfl, rfl, rfl, by decide +kernel, rfl, by decide +kernel, by decide +kernel⟩
theorem ok_within {f fL : Addr} {fd fdL : FuncData} (F : Fun K "is_within" "is_within" sWithin f fd) (A_all_loads : At K mg "all_loads" fL) (G_all_loads : FnOk P w K mg base CX0 3 fL fdL ["deal", "bounds"] spAll) (b_all_loads : Binds K fdL ["deal", "bounds"] []) : FnOk P w K mg base CX0 4 f fd ["deal", "bounds"] spWithin := by
  refine F.ok scWithin (fun vs H Q E h => ?_) (fun cdv A outer s H vs Q E hr h => ?_)
  · obtain ⟨p, bp, ds, bs, lo, hi, rfl, _⟩ := h
    rfl
  · obtain ⟨p, bp, ds, bs, lo, hi, rfl, hd, hb, k⟩ := h
    have nd := scWithin.nd
    have hr_all_loads : Room 3 _ := hr
    have hu1 : _ < cLine := hr.in1.units0
    refine ⟨_, (pss_cons (ps_for PassesOwn.never rfl (pi_items (DV.pe_lockV (pe_call G_all_loads hr_all_loads (by rfl) A_all_loads.g A_all_loads.k b_all_loads .nil pass0 (pa_cons (pv 0) (pa_cons (pv 1) pa_nil))))) (pg_tup rfl (pgs_cons (pg_name (i := 2) nd rfl (Or.inl rfl)) (pgs_cons (pg_name (i := 3) nd rfl (Or.inl rfl)) pgs_nil)))
        (pss_cons (ps_asg (pe_dget2 hu1 (pv 1) (pv 2) (pe_tup (pa_cons pe_int (pa_cons pe_int pa_nil))) ⟨by rfl, by rfl, by rfl, by rfl⟩) (pg_tup rfl (pgs_cons (pg_name (i := 4) nd rfl (Or.inl rfl)) (pgs_cons (pg_name (i := 5) nd rfl (Or.inl rfl)) pgs_nil))))
        (pss_one (ps_if (pt_not (pt_chain op_le op_le (pv 4) (pv 3) (pv 5)))
          (pss_one (ps_ret pe_bl))
          pss_nil))))
      (pss_one (ps_ret pe_bl))), ?_⟩
    refine into ⟨_, rfl, _, rfl, p, bp, ds, bs, lo, hi, rfl, hd, hb, fun H1 L e1 nL hL => ?_⟩
    refine ⟨L, _, rfl, hL, trivial, fun od => ?_⟩
    refine ⟨L, od, _, rfl, upd_same, ?_⟩
    have e2 : Same H (upd H1 L (.frz od (.dK (tab (fun n => cnt n ds) (alls ds bs))))) := put_in e1 nL
    have hL2 : (upd H1 L (.frz od (.dK (tab (fun n => cnt n ds) (alls ds bs))))) L = some (.frz od (.dK (tab (fun n => cnt n ds) (alls ds bs)))) := upd_same
    generalize upd H1 L (.frz od (.dK (tab (fun n => cnt n ds) (alls ds bs)))) = H2 at e2 hL2 ⊢
    obtain ⟨bk, hk, keys, bnd⟩ := hb.at_
    refine for_items (fun i σ H' => (∃ y1 y2 y3 y4, σ = [some (.ref p), some (.ref bp), y1, y2, y3, y4]) ∧ Same H2 H' ∧ ∀ n ∈ (alls ds bs).take i, lo n ≤ cnt n ds ∧ cnt n ds ≤ hi n) ⟨⟨_, _, _, _, rfl⟩, Same.refl _, fun n h => by rw [List.take_zero] at h; cases h⟩ (fun i σ H' _ z => z.2.1 _ _ hL2) ?_ ?_
    · rintro i k' x TT σ H' hi' nT ⟨⟨y1, y2, y3, y4, rfl⟩, eH, old⟩
      obtain ⟨n, hn, rfl, rfl⟩ := tab_get hi'
      refine ⟨TT, _, rfl, SqT.of upd_same, rfl, _, _, rfl, _, _, rfl, rfl, ?_⟩
      have e3 : Same H (upd H' TT (.tup [kV (.inr n), .int (cnt n ds)])) := (e2.trans eH).trans (made' nT)
      refine ⟨_, rfl, bp, rfl, .inl ⟨bk, .inl (e3 _ _ hk)⟩, _, rfl, by show 2 ≤ sizeLine; decide, fun t nt => ⟨_, DGet.k (k := .inr n) (made' nt _ _ (e3 _ _ hk)), ?_⟩⟩
      obtain ⟨a, ea, ha⟩ := bound_at ((bnd n).sm e3) nt
      have e4 : Same H' (upd (upd H' TT (.tup [kV (.inr n), .int (cnt n ds)])) t (.tup [.int 0, .int 0])) := (made' nT).trans (made' nt)
      generalize upd (upd H' TT (.tup [kV (.inr n), .int (cnt n ds)])) t (.tup [.int 0, .int 0]) = H4 at ha e4 ⊢
      rw [show (valV bk (.inr n)).getD (.ref t) = _ from ea]
      refine ⟨a, _, rfl, SqT.of ha, rfl, _, _, rfl, _, _, rfl, rfl, ?_⟩
      refine ⟨_, rfl, _, rfl, _, _, rfl, rfl, _, rfl, ?_⟩
      have no : ¬ (lo n ≤ cnt n ds ∧ cnt n ds ≤ hi n) → Q (.bl false) H4 := fun q => k _ false (e2.trans (eH.trans e4)) ⟨fun z => (by cases z), fun z => absurd (z n (List.mem_of_getElem? hn)) q⟩
      by_cases c1 : lo n ≤ cnt n ds
      · rw [decide_eq_true c1]
        refine iteT ⟨_, rfl, _, _, rfl, rfl, _, rfl, ?_⟩
        by_cases c2 : cnt n ds ≤ hi n
        · rw [decide_eq_true c2]
          exact iteF ⟨⟨_, _, _, _, rfl⟩, eH.trans e4, take_all hn old ⟨c1, c2⟩⟩
        · rw [decide_eq_false c2]
          exact iteT (no fun z => c2 z.2)
      · rw [decide_eq_false c1]
        exact iteF ⟨_, rfl, iteT (no fun z => c1 z.1)⟩
    · rintro σ H' ⟨⟨y1, y2, y3, y4, rfl⟩, eH, old⟩
      rw [tab_len, List.take_length] at old
      exact k _ true (e2.trans eH) ⟨fun _ => old, fun _ => rfl⟩
end
end KD
end
section
/-! Deals: needs as a table; the nearest numbers. -/
namespace KD
open PySem L2 DM
theorem putAll_tab (g : Str × Int → Int) (l : Str → Int) (ns : List Str) (d : ns.Nodup) : putAll g (ns.map fun n => (n, l n)) = tab (fun n => g (n, l n)) ns := by
  have : ∀ (ms ks : List Str), (ks ++ ms).Nodup → (ms.map fun n => (n, l n)).foldl (fun acc d => putK acc (.inr d.1) (.int (g d))) (tab (fun n => g (n, l n)) ks) = tab (fun n => g (n, l n)) (ks ++ ms) := by
    intro ms
    induction ms with
    | nil => intro ks _; rw [List.append_nil]; rfl
    | cons m ms ih =>
      intro ks nd
      have nm : m ∉ ks := fun h => (List.nodup_append.mp nd).2.2 m h m List.mem_cons_self rfl
      rw [List.map_cons, List.foldl_cons]
      dsimp only
      rw [put_same (fun n => g (n, l n)) ks m nm, ih (ks ++ [m]) (by rw [List.append_assoc]; exact nd), List.append_assoc]; rfl
  exact this ns [] d
theorem tab_nums (c : Str → Int) (ns : List Str) : tab c ns = numsV (ns.map fun n => (n, c n)) := by
  unfold tab numsV
  rw [List.map_map]; rfl
/-- the dict from names to values -/
def tabV (c : Str → V) (ns : List Str) : List (Key × V) := ns.map fun n => (.inr n, c n)
theorem tabV_len (c : Str → V) (ns : List Str) : (tabV c ns).length = ns.length := List.length_map _
theorem tabV_get {c : Str → V} {ns : List Str} {i : Nat} {k : Key} {x : V} (h : (tabV c ns)[i]? = some (k, x)) : ∃ n, ns[i]? = some n ∧ k = .inr n ∧ x = c n := by
  unfold tabV at h
  rw [List.getElem?_map] at h
  cases e : ns[i]? with
  | none => rw [e] at h; cases h
  | some n => rw [e] at h; cases h; exact ⟨n, rfl, rfl, rfl⟩
theorem tabV_congr {c d : Str → V} {ns : List Str} (h : ∀ n ∈ ns, c n = d n) : tabV c ns = tabV d ns := List.map_congr_left fun n hn => by rw [h n hn]
theorem val_tabV (c : Str → V) (r : Str) : ∀ ns : List Str, r ∈ ns → valV (tabV c ns) (.inr r) = some (c r)
  | [], h => absurd h List.not_mem_nil
  | n :: ns, h => by
    have ih := val_tabV c r ns
    unfold valV tabV at ih ⊢
    rw [List.map_cons, List.find?_cons]
    by_cases q : n = r
    · rw [show decide (((Sum.inr n : Key), c n).1 = .inr r) = true from decide_eq_true (by rw [q]), q]; rfl
    · rw [show decide (((Sum.inr n : Key), c n).1 = .inr r) = false from decide_eq_false fun z => q (Sum.inr.inj z)]
      exact ih ((List.mem_cons.mp h).resolve_left fun e => q e.symm)
theorem put_tabV (c : Str → V) (ns : List Str) (r : Str) (x : V) (h : r ∉ ns) : putK (tabV c ns) (.inr r) x = tabV (fun n => if n = r then x else c n) (ns ++ [r]) := by
  unfold putK
  rw [if_neg]
  · rw [show tabV c ns = tabV (fun n => if n = r then x else c n) ns from tabV_congr fun n hn => (if_neg (fun z : n = r => h (z ▸ hn))).symm]
    unfold tabV
    rw [List.map_append, List.map_cons, List.map_nil]
    dsimp only
    rw [if_pos rfl]
  · intro z
    obtain ⟨kv, hk, e⟩ := List.any_eq_true.mp z
    obtain ⟨n, hn, q⟩ := List.mem_map.mp hk
    rw [← q] at e
    exact h (Sum.inr.inj (of_decide_eq_true e) ▸ hn)
theorem new_at {ns : List Str} (d : ns.Nodup) {i : Nat} {n : Str} (h : ns[i]? = some n) : n ∉ ns.take i := fun m => by
  obtain ⟨j, hj⟩ := List.mem_iff_getElem?.mp m
  have lt : j < i := by
    rcases Nat.lt_or_ge j i with l | g
    · exact l
    · rw [List.getElem?_eq_none (by rw [List.length_take]; omega)] at hj; cases hj
  rw [List.getElem?_take_of_lt lt] at hj
  exact Nat.ne_of_lt lt ((List.getElem?_inj (List.getElem?_eq_some_iff.mp hj).1 d).mp (hj.trans h.symm))
theorem take_snoc {α : Type} {ns : List α} {i : Nat} {n : α} (h : ns[i]? = some n) : ns.take (i + 1) = ns.take i ++ [n] := by rw [List.take_succ, h]; rfl
theorem drop_cons {α : Type} {ns : List α} {i : Nat} {n : α} (h : ns[i]? = some n) : ns.drop i = n :: ns.drop (i + 1) := by
  obtain ⟨lt, e⟩ := List.getElem?_eq_some_iff.mp h
  rw [List.drop_eq_getElem_cons lt, e]
theorem getK {H : Hp} {d : Addr} {kvs : List (Key × V)} {k : Key} {v : V} (e : Rd H d (.dK kvs)) (h : valV kvs k = some v) : DGet H d (kV k) (some v) := h ▸ DGet.kr e
theorem val_in {c : Str → Int} {r : Str} {ns : List Str} (h : r ∈ ns) : valV (tab c ns) (.inr r) = some (.int (c r)) := by rw [val_tab, if_pos h]
theorem tab_vals (c : Str → Int) (ns : List Str) : (tab c ns).map (·.2) = (ns.map c).map V.int := by
  unfold tab
  rw [List.map_map, List.map_map]; rfl
def needT (l lo hi : Str → Int) (way : Str) (n : Str) : Int := if way = "leaving" then max 0 (l n - hi n) else max 0 (lo n - l n)
def spNeedT : Sp := fun vs H Q _ => ∃ (lp bp : Addr) (way : Str) (ns bs : List Str) (l lo hi : Str → Int), vs = [.ref lp, .ref bp, .str way] ∧ H lp = some (.dK (tab l ns)) ∧ Bds H bp bs lo hi ∧ lp ≠ bp ∧ ns.Nodup ∧ ns.length ≤ 72 ∧
  ∀ H' N, Same H H' → H N = none → H' N = some (.dK (tab (needT l lo hi way) ns)) → Q (.ref N) H'
def spNearest : Sp := fun vs H Q _ => ∃ (lp bp : Addr) (ns bs : List Str) (l lo hi : Str → Int) (m : Nat), vs = [.ref lp, .ref bp, .int m] ∧ H lp = some (.dK (tab l ns)) ∧ Bds H bp bs lo hi ∧ lp ≠ bp ∧ ns.Nodup ∧ ns.length ≤ 72 ∧ m ≤ 60 ∧
  ∀ H' N (f : Str → Int), Same H H' → H N = none → near ((m : Int) - sumF (fun n => (Deal.rd ⟨l, lo, hi⟩ n).c) ns) (ns.map (Deal.rd ⟨l, lo, hi⟩)) = ns.map f → H' N = some (.dK (tab f ns)) → Q (.ref N) H'
section
variable {P : Program} {w : World} {K : PySem.W.Frag} {mg : Str → Option Value} {base : Heap}
theorem ok_needT {f : Addr} {fd : FuncData} (G : FnOk P w K mg base CX0 2 f fd ["loads", "bounds", "way"] spNeeds) : FnOk P w K mg base CX0 2 f fd ["loads", "bounds", "way"] spNeedT := by
  refine ⟨fun vs H Q E h => ?_, fun A outer s H args us vs Q E hr e0 hb r h => G.run A outer s H args us vs Q E hr e0 hb r ?_⟩
  · obtain ⟨lp, bp, way, ns, bs, l, lo, hi, rfl, _⟩ := h
    rfl
  · obtain ⟨lp, bp, way, ns, bs, l, lo, hi, rfl, hl, hb, ne, nd, few, k⟩ := h
    obtain ⟨bk, h1, _, h3⟩ := hb.at_
    refine ⟨lp, bp, way, ns.map fun n => (n, l n), bk, lo, hi, rfl, by rw [← tab_nums]; exact hl, h1, ne, fun d _ => h3 d.1, by rw [List.length_map]; omega, fun H' N e nN hN => k H' N e nN ?_⟩
    rw [putAll_tab _ _ _ nd] at hN
    exact hN
abbrev sNearest : Stmt := top 29
abbrev nNearest : List Str := ["loads", "bounds", "many", "ranges", "found", "left", "reader", "low", "high", "more"]
theorem scNearest : FnScope nNearest ["loads", "bounds", "many"] (defScope sNearest) := ⟨rfl, rfl, rfl, by decide +kernel, rfl, by decide +kernel, by decide +kernel⟩
theorem ok_nearest {f : Addr} {fd : FuncData} (F : Fun K "nearest_loads" "nearest_loads" sNearest f fd) (T : TxD mg) : FnOk P w K mg base CX0 2 f fd ["loads", "bounds", "many"] spNearest := by
  refine F.ok scNearest (fun vs H Q E h => ?_) (fun cdv A outer s H vs Q E hr h => ?_)
  · obtain ⟨lp, bp, ns, bs, l, lo, hi, m, rfl, _⟩ := h
    rfl
  · obtain ⟨lp, bp, ns, bs, l, lo, hi, m, rfl, hl, hb, nlb, nod, few, mfew, k⟩ := h
    have nd := scNearest.nd
    have hu1 : _ < cLine := hr.in1.units0
    refine ⟨_, (pss_cons (ps_set (i := 3) nd rfl (Or.inr rfl) (pe_lock (pe_dc (own := [("reader", 6)]) (by rfl) nd (pi_keys (pv 0)) (blkOk_by (N := nNearest) (sc := defScope sNearest) (by decide +kernel)) (fun _ _ _ _ _ => (pg_name (i := 6) nd rfl (Or.inl rfl))) (fun _ _ _ _ _ => pts_nil) (fun _ _ _ _ _ => (pv 6)) (fun _ _ _ _ _ => (pe_dget2 hu1 (pv 1) (pv 6) (pe_tup (pa_cons pe_int (pa_cons pe_int pa_nil))) ⟨by rfl, by rfl, by rfl, by rfl⟩)))))
      (pss_cons (ps_lock (DV.ps_setDc (i := 4) (own := [("reader", 6)]) (by rfl) nd rfl rfl (DV.sw_dict rfl rfl rfl (by decide +kernel)) (pi_keys (pv 0)) (blkOk_by (N := nNearest) (sc := defScope sNearest) (by decide +kernel)) (fun _ _ _ _ _ => (pg_name (i := 6) nd rfl (Or.inl rfl))) (fun _ _ _ _ _ => pts_nil) (fun _ _ _ _ _ => (pv 6)) (fun _ _ _ _ _ => (pe_callB (call_min2 rfl) (by rfl) T.min (by decide +kernel) (pa_cons (pe_callB (call_max2 rfl) (by rfl) T.max (by decide +kernel) (pa_cons (pe_dget hu1 (pv 0) (pv 6) (fun _ _ => rfl)) (pa_cons (pe_ix (ix_tupK (K := K) rfl) (pe_dget hu1 (pv 3) (pv 6) (fun _ _ => rfl)) pe_int (fun _ _ => rfl)) pa_nil))) (pa_cons (pe_ix (ix_tupK (K := K) rfl) (pe_dget hu1 (pv 3) (pv 6) (fun _ _ => rfl)) pe_int (fun _ _ => rfl)) pa_nil))))))
      (pss_cons (ps_set (i := 5) nd rfl (Or.inl rfl) (pe_op op_sub (pv 2) (pe_callB (cr_sum rfl) (by rfl) T.sum (by decide +kernel) (pa_cons (DV.pe_listVals (by rfl) (by rfl) T.list (by decide +kernel) (pv 4)) pa_nil))))
      (pss_cons (ps_for PassesOwn.never rfl (pi_items (DV.pe_lockV (pv 3))) (pg_tup rfl (pgs_cons (pg_name (i := 6) nd rfl (Or.inl rfl)) (pgs_cons (pg_tup rfl (pgs_cons (pg_name (i := 7) nd rfl (Or.inl rfl)) (pgs_cons (pg_name (i := 8) nd rfl (Or.inl rfl)) pgs_nil))) pgs_nil)))
        (pss_cons (ps_set (i := 9) nd rfl (Or.inl rfl) (pe_ifExp (pt_cmpR op_gt (pv 5) pe_int (nomark _)) (pe_callB (call_min2 rfl) (by rfl) T.min (by decide +kernel) (pa_cons (pv 5) (pa_cons (pe_op op_sub (pv 8) (pe_dget hu1 (pv 4) (pv 6) (fun _ _ => rfl))) pa_nil))) (pe_callB (call_max2 rfl) (by rfl) T.max (by decide +kernel) (pa_cons (pv 5) (pa_cons (pe_op op_sub (pv 7) (pe_dget hu1 (pv 4) (pv 6) (fun _ _ => rfl))) pa_nil)))))
        (pss_cons (ps_daug hu1 (pv 4) (pv 6) (pv 9) ip_add (fun _ _ _ => rfl))
        (pss_one (ps_aug (i := 5) nd rfl (Or.inl rfl) (pv 9) ip_sub)))))
      (pss_one (ps_ret (pv 4))))))), ?_⟩
    -- the ranges
    obtain ⟨bk, hk, keys, bnd⟩ := hb.at_
    refine into ⟨lp, _, hl, trivial, fun od => ⟨_, rfl, lp, od, rfl, .inl ⟨_, upd_same, fun R nR => ?_⟩⟩⟩
    have nl : lp ≠ R := fun q => by rw [← q, upd_same] at nR; cases nR
    have nR0 : H R = none := by rw [upd_ne nl.symm] at nR; exact nR
    refine DV.dc_it walk_keys (fun i H' => H' lp = some (.frz od (.dK (tab l ns))) ∧ (∃ ad : Str → Addr, H' R = some (.dK (tabV (fun n => .ref (ad n)) (ns.take i))) ∧ ∀ n ∈ ns.take i, H' (ad n) = some (.tup [.int (lo n), .int (hi n)])) ∧ ∀ b o, H b = some o → b ≠ lp → H' b = some o) ⟨by rw [upd_ne nl, upd_same], ⟨fun _ => 0, by rw [upd_same, List.take_zero]; rfl, fun n hn => by rw [List.take_zero] at hn; cases hn⟩, fun b o z n => by rw [upd_ne (ne_of_none z nR0), upd_ne n]; exact z⟩ (fun i H' _ z => z.1) ?_ ?_
    · rintro i x H3 H4 hi' ⟨z1, ⟨ad, z2, z4⟩, z3⟩ ⟨rfl, k', v, hx, rfl⟩
      obtain ⟨n, hn, rfl, rfl⟩ := tab_get hx
      have lt : i < ns.length := (List.getElem?_eq_some_iff.mp hn).1
      have hk4 := z3 _ _ hk nlb.symm
      refine ⟨rfl, _, rfl, _, rfl, bp, rfl, .inl ⟨bk, .inl hk4⟩, _, rfl, by show 2 ≤ sizeLine; decide, fun t nt => ⟨_, DGet.k (k := .inr n) (made' nt _ _ hk4), ?_⟩⟩
      obtain ⟨a, ea, ha⟩ := bound_at ((bnd n).same fun a o z u => z3 a o z fun q => by obtain ⟨xs, u⟩ := u; rw [q, hl, u] at z; cases z) nt
      rw [show (valV bk (.inr n)).getD (.ref t) = _ from ea]
      have e4 : Same H4 (upd H4 t (.tup [.int 0, .int 0])) := made' nt
      generalize upd H4 t (.tup [.int 0, .int 0]) = H5 at ha e4 ⊢
      refine ⟨_, .inr n, rfl, e4 _ _ z2, by rw [tabV_len, List.length_take, sizeLine_eq]; omega, by rw [upd_ne nl]; exact e4 _ _ z1, ⟨fun x => if x = n then a else ad x, ?_, fun x hx' => ?_⟩, fun b o z q => by rw [upd_ne (ne_of_none z nR0)]; exact e4 _ _ (z3 b o z q)⟩
      · rw [upd_same, put_tabV _ _ _ _ (new_at nod hn), take_snoc hn]
        congr 2
        refine tabV_congr fun x _ => ?_
        dsimp only
        by_cases q : x = n
        · rw [if_pos q, if_pos q]
        · rw [if_neg q, if_neg q]
      · have tup_ne : ∀ c xs, H5 c = some (.tup xs) → c ≠ R := fun c xs z q => by rw [q, e4 _ _ z2] at z; cases z
        rw [take_snoc hn] at hx'
        dsimp only
        by_cases q : x = n
        · rw [if_pos q, q, upd_ne (tup_ne _ _ ha)]; exact ha
        · rw [if_neg q]
          have z := e4 _ _ (z4 x ((List.mem_append.mp hx').resolve_right fun y => q (List.mem_singleton.mp y)))
          rw [upd_ne (tup_ne _ _ z)]; exact z
    · rintro H3 ⟨z1, ⟨ad, z2, z4⟩, z3⟩
      rw [tab_len, List.take_length] at z2 z4
      refine ⟨z1, ?_⟩
      have e1 : Same H (upd H3 lp (.dK (tab l ns))) := same_back hl z3
      have hl1 : (upd H3 lp (.dK (tab l ns))) lp = some (.dK (tab l ns)) := upd_same
      have hR1 : (upd H3 lp (.dK (tab l ns))) R = some (.dK (tabV (fun n => .ref (ad n)) ns)) := by rw [upd_ne nl.symm]; exact z2
      have ht1 : ∀ n ∈ ns, (upd H3 lp (.dK (tab l ns))) (ad n) = some (.tup [.int (lo n), .int (hi n)]) := fun n hn => by
        rw [upd_ne fun q => by have := z4 n hn; rw [q, z1] at this; cases this]; exact z4 n hn
      generalize upd H3 lp (.dK (tab l ns)) = H4 at e1 hl1 hR1 ht1 ⊢
      clear z1 z2 z3 z4 nR
      -- the numbers within the bounds
      refine into ⟨lp, _, hl1, trivial, fun od2 => ⟨_, rfl, lp, od2, rfl, .inl ⟨_, upd_same, fun N nN => ?_⟩⟩⟩
      have nlN : lp ≠ N := fun q => by rw [← q, upd_same] at nN; cases nN
      have nN1 : H4 N = none := by rw [upd_ne nlN.symm] at nN; exact nN
      refine DV.dc_it walk_keys (fun i H' => H' lp = some (.frz od2 (.dK (tab l ns))) ∧ H' N = some (.dK (tab (fun n => (Deal.rd ⟨l, lo, hi⟩ n).c) (ns.take i))) ∧ ∀ b o, H4 b = some o → b ≠ lp → H' b = some o) ⟨by rw [upd_ne nlN, upd_same], by rw [upd_same, List.take_zero]; rfl, fun b o z n => by rw [upd_ne (ne_of_none z nN1), upd_ne n]; exact z⟩ (fun i H' _ z => z.1) ?_ ?_
      · rintro i x H5 H6 hi' ⟨z1, z2, z3⟩ ⟨rfl, k', v, hx, rfl⟩
        obtain ⟨n, hn, rfl, rfl⟩ := tab_get hx
        have lt : i < ns.length := (List.getElem?_eq_some_iff.mp hn).1
        have mem := List.mem_of_getElem? hn
        have hR6 := z3 _ _ hR1 nl.symm
        have ht6 := z3 _ _ (ht1 n mem) fun q => by have := ht1 n mem; rw [q, hl1] at this; cases this
        have vR := val_tabV (fun n => V.ref (ad n)) n ns mem
        refine ⟨rfl, _, rfl, _, rfl, _, rfl, lp, _, rfl, getK (k := .inr n) (.inr ⟨_, z1⟩) (val_in mem), ?_⟩
        refine ⟨_, rfl, _, rfl, R, _, rfl, getK (k := .inr n) (.inl hR6) vR, ad n, _, _, .int (lo n), rfl, rfl, SqT.of ht6, atI_nat (j := 0) rfl, _, _, rfl, ?_⟩
        refine ⟨_, rfl, _, rfl, R, _, rfl, getK (k := .inr n) (.inl hR6) vR, ad n, _, _, .int (hi n), rfl, rfl, SqT.of ht6, atI_nat (j := 1) rfl, _, _, rfl, ?_⟩
        refine ⟨_, .inr n, rfl, z2, by rw [tab_len, List.length_take, sizeLine_eq]; omega, by rw [upd_ne nlN]; exact z1, ?_, fun b o z q => by rw [upd_ne (ne_of_none z nN1)]; exact z3 b o z q⟩
        rw [upd_same, take_snoc hn, ← put_same (fun n => (Deal.rd ⟨l, lo, hi⟩ n).c) _ n (new_at nod hn)]
        congr 3
        show V.int _ = V.int (min (max (l n) (lo n)) (hi n))
        congr 1
        split <;> split <;> omega
      · rintro H5 ⟨z1, z2, z3⟩
        rw [tab_len, List.take_length] at z2
        refine ⟨z1, ?_⟩
        have e2 : Same H (upd H5 lp (.dK (tab l ns))) := e1.trans (same_back hl1 z3)
        have e2' : Same H4 (upd H5 lp (.dK (tab l ns))) := same_back hl1 z3
        have hN2 : (upd H5 lp (.dK (tab l ns))) N = some (.dK (tab (fun n => (Deal.rd ⟨l, lo, hi⟩ n).c) ns)) := by rw [upd_ne nlN.symm]; exact z2
        have hR2 := e2' _ _ hR1
        have ht2 := fun n hn => e2' _ _ (ht1 n hn)
        have nN0 : H N = none := e1.free nN1
        have nRN : R ≠ N := fun q => by rw [q, nN1] at hR1; cases hR1
        generalize upd H5 lp (.dK (tab l ns)) = H6 at e2 hN2 hR2 ht2 ⊢
        clear z1 z2 z3 e2' e1 nN nN1 hl1 hR1 ht1
        -- what is left
        refine into ⟨_, rfl, _, rfl, N, _, rfl, hN2, fun S nS => ⟨S, ns.map (Deal.rd ⟨l, lo, hi⟩ · |>.c), rfl, ?_⟩⟩
        refine ⟨SqL.of (by rw [upd_same, tab_vals]), _, _, rfl, rfl, ?_⟩
        rw [sum_map]
        have e3 : Same H6 (upd H6 S (.lst ((tab (fun n => (Deal.rd ⟨l, lo, hi⟩ n).c) ns).map (·.2)))) := made' nS
        have e4 := e2.trans e3
        have hN3 := e3 _ _ hN2
        have hR3 := e3 _ _ hR2
        have ht3 := fun n hn => e3 _ _ (ht2 n hn)
        generalize upd H6 S (.lst ((tab (fun n => (Deal.rd ⟨l, lo, hi⟩ n).c) ns).map (·.2))) = H7 at e4 hN3 hR3 ht3 ⊢
        clear e2 e3 hN2 hR2 ht2 nS
        refine into ⟨_, rfl, R, _, rfl, hR3, trivial, fun od3 => ⟨R, od3, _, rfl, upd_same, ?_⟩⟩
        have tR : ∀ n ∈ ns, ad n ≠ R := fun n hn q => by have := ht3 n hn; rw [q, hR3] at this; cases this
        have tN : ∀ n ∈ ns, ad n ≠ N := fun n hn q => by have := ht3 n hn; rw [q, hN3] at this; cases this
        refine for_items (fun i σ H' => ∃ (g : Str → Int) (left : Int), (∃ y6 y7 y8 y9, σ = [some (.ref lp), some (.ref bp), some (.int m), some (.ref R), some (.ref N), some (.int left), y6, y7, y8, y9]) ∧
          near ((m : Int) - sumF (fun n => (Deal.rd ⟨l, lo, hi⟩ n).c) ns) (ns.map (Deal.rd ⟨l, lo, hi⟩)) = (ns.take i).map g ++ near left ((ns.drop i).map (Deal.rd ⟨l, lo, hi⟩)) ∧ (∀ n ∈ ns.drop i, g n = (Deal.rd ⟨l, lo, hi⟩ n).c) ∧
          H' N = some (.dK (tab g ns)) ∧ H' R = some (.frz od3 (.dK (tabV (fun n => .ref (ad n)) ns))) ∧ (∀ b o, H b = some o → H' b = some o) ∧ ∀ n ∈ ns, H' (ad n) = some (.tup [.int (lo n), .int (hi n)]))
          ⟨_, _, ⟨_, _, _, _, rfl⟩, rfl, fun n _ => rfl, by rw [upd_ne nRN.symm]; exact hN3, upd_same, fun b o z => by rw [upd_ne (ne_of_none z nR0)]; exact e4 _ _ z, fun n hn => by rw [upd_ne (tR n hn)]; exact ht3 n hn⟩ (fun i σ H' _ ⟨_, _, _, _, _, _, z, _⟩ => z) ?_ ?_
        · rintro i k' x TT σ H' hi' nT ⟨g, left, ⟨y6, y7, y8, y9, rfl⟩, nr, rest, z1, z2, z3, z4⟩
          obtain ⟨n, hn, rfl, rfl⟩ := tabV_get hi'
          have mem := List.mem_of_getElem? hn
          have t1 : Same H' (upd H' TT (.tup [kV (.inr n), .ref (ad n)])) := made' nT
          refine ⟨TT, _, rfl, SqT.of upd_same, rfl, _, _, rfl, _, _, rfl, ad n, _, rfl, SqT.of (t1 _ _ (z4 n mem)), rfl, _, _, rfl, _, _, rfl, rfl, rfl, ?_⟩
          have z1' := t1 _ _ z1
          have z2' := t1 _ _ z2
          have z3' := fun b o z => t1 _ _ (z3 b o z)
          have z4' := fun n hn => t1 _ _ (z4 n hn)
          generalize upd H' TT (.tup [kV (.inr n), .ref (ad n)]) = H8 at z1' z2' z3' z4' ⊢
          have gn : g n = (Deal.rd ⟨l, lo, hi⟩ n).c := rest n (by rw [drop_cons hn]; exact List.mem_cons_self)
          have tail : ∀ d : Int, d = (if left > 0 then min left (hi n - g n) else max left (lo n - g n)) → ∃ (g' : Str → Int) (left' : Int), left' = left - d ∧
              near ((m : Int) - sumF (fun n => (Deal.rd ⟨l, lo, hi⟩ n).c) ns) (ns.map (Deal.rd ⟨l, lo, hi⟩)) = (ns.take (i + 1)).map g' ++ near left' ((ns.drop (i + 1)).map (Deal.rd ⟨l, lo, hi⟩)) ∧ (∀ n ∈ ns.drop (i + 1), g' n = (Deal.rd ⟨l, lo, hi⟩ n).c) ∧
              putK (tab g ns) (.inr n) (.int (g n + d)) = tab g' ns := fun d ed => by
            have out : ∀ x ∈ ns.take i, x ≠ n := fun x hx q => new_at nod hn (q ▸ hx)
            have nod2 := nod
            rw [← List.take_append_drop i ns, drop_cons hn] at nod2
            have out2 : ∀ x ∈ ns.drop (i + 1), x ≠ n := fun x hx q => (List.nodup_cons.mp (List.nodup_append.mp nod2).2.1).1 (q ▸ hx)
            refine ⟨fun x => if x = n then g n + d else g x, _, rfl, ?_, fun x hx => ?_, by rw [put_tab, if_pos mem]⟩
            · rw [nr, drop_cons hn, List.map_cons, take_snoc hn, List.map_append, List.map_cons, List.map_nil, List.append_assoc]
              congr 1
              · exact List.map_congr_left fun x hx => (if_neg (out x hx)).symm
              · show _ :: near (left - _) _ = (if n = n then g n + d else g n) :: near (left - d) _
                rw [if_pos rfl, gn]
                have e : d = if left > 0 then min left ((Deal.rd ⟨l, lo, hi⟩ n).hi - (Deal.rd ⟨l, lo, hi⟩ n).c) else max left ((Deal.rd ⟨l, lo, hi⟩ n).lo - (Deal.rd ⟨l, lo, hi⟩ n).c) := by rw [ed, gn]; rfl
                rw [← e]
            · dsimp only
              rw [if_neg (out2 x hx)]
              exact rest x (by rw [drop_cons hn]; exact List.mem_cons_of_mem _ hx)
          have keep : ∀ kv, (∀ b o, H b = some o → (upd H8 N (.dK kv)) b = some o) ∧ (∀ n ∈ ns, (upd H8 N (.dK kv)) (ad n) = some (.tup [.int (lo n), .int (hi n)])) ∧ (upd H8 N (.dK kv)) R = some (.frz od3 (.dK (tabV (fun n => .ref (ad n)) ns))) := fun kv =>
            ⟨fun b o z => by rw [upd_ne (ne_of_none z nN0)]; exact z3' b o z, fun n hn => by rw [upd_ne (tN n hn)]; exact z4' n hn, by rw [upd_ne nRN]; exact z2'⟩
          have room : (tab g ns).length < sizeLine := by rw [tab_len, sizeLine_eq]; omega
          dsimp only
          refine into ⟨_, rfl, _, _, rfl, rfl, _, rfl, ?_⟩
          by_cases c1 : left > 0
          · rw [decide_eq_true c1]
            refine iteT ⟨_, rfl, _, rfl, _, rfl, _, rfl, N, _, rfl, getK (k := .inr n) (.inl z1') (val_in mem), _, _, rfl, rfl, _, _, rfl, ?_⟩
            obtain ⟨g', left', el, nr', rest', pt⟩ := tail (if hi n - g n < left then hi n - g n else left) (by rw [if_pos c1]; split <;> omega)
            refine into ⟨_, rfl, _, rfl, N, _, rfl, getK (k := .inr n) (.inl z1') (val_in mem), _, rfl, _, _, rfl, rfl, _, DPut.k (k := .inr n) z1' room, ?_⟩
            rw [pt]
            obtain ⟨k1, k2, k3⟩ := keep (tab g' ns)
            exact ⟨_, rfl, _, rfl, _, _, rfl, rfl, g', left', ⟨_, _, _, _, by rw [el]; rfl⟩, nr', rest', upd_same, k3, k1, k2⟩
          · rw [decide_eq_false c1]
            refine iteF ⟨_, rfl, _, rfl, _, rfl, _, rfl, N, _, rfl, getK (k := .inr n) (.inl z1') (val_in mem), _, _, rfl, rfl, _, _, rfl, ?_⟩
            obtain ⟨g', left', el, nr', rest', pt⟩ := tail (if lo n - g n > left then lo n - g n else left) (by rw [if_neg c1]; split <;> omega)
            refine into ⟨_, rfl, _, rfl, N, _, rfl, getK (k := .inr n) (.inl z1') (val_in mem), _, rfl, _, _, rfl, rfl, _, DPut.k (k := .inr n) z1' room, ?_⟩
            rw [pt]
            obtain ⟨k1, k2, k3⟩ := keep (tab g' ns)
            exact ⟨_, rfl, _, rfl, _, _, rfl, rfl, g', left', ⟨_, _, _, _, by rw [el]; rfl⟩, nr', rest', upd_same, k3, k1, k2⟩
        · rintro σ H' ⟨g, left, ⟨y6, y7, y8, y9, rfl⟩, nr, rest, z1, z2, z3, z4⟩
          have len : (tabV (fun n => V.ref (ad n)) ns).length = ns.length := tabV_len _ _
          rw [len, List.take_length, List.drop_length] at nr
          refine ⟨_, rfl, k _ N g z3 nN0 (nr.trans ?_) z1⟩
          rw [List.map_nil]
          show ns.map g ++ [] = _
          rw [List.append_nil]
end
end KD
end
section
/-! The moves one by one. -/
namespace DM
variable {σ τ : Type} [DecidableEq σ]
/-- what is still to be given is still wanted -/
def Left (ms : List σ) (sp : σ → Int) (w : List σ) (xs : List (τ × σ)) : Prop := sumF (fun n => min (max 0 (sp n)) (cnt n xs)) ms ≤ w.length
theorem mv_yes {ms : List σ} (d : ms.Nodup) {sp : σ → Int} {w : List σ} {x : τ × σ} {xs : List (τ × σ)} (hx : x.2 ∈ ms) (pos : 0 < sp x.2) (h : Left ms sp w (x :: xs)) :
    ∃ g w', w = g :: w' ∧ mv sp w (x :: xs) = (x.1, x.2, g) :: mv (less sp x.2) w' xs ∧ Left ms (less sp x.2) w' xs := by
  have c0 := cnt_0 x.2 xs
  unfold Left at h ⊢
  have e := sumF_at (f := fun n => min (max 0 (sp n)) (cnt n (x :: xs))) (g := fun n => min (max 0 (less sp x.2 n)) (cnt n xs)) (r := x.2) ms d hx fun n ne => by
    rw [cnt_cons, if_neg fun k : x.2 = n => ne k.symm, Int.zero_add]
    unfold less
    rw [if_neg ne]
  have one : min (max 0 (sp x.2)) (cnt x.2 (x :: xs)) = min (max 0 (less sp x.2 x.2)) (cnt x.2 xs) + 1 := by
    rw [cnt_cons, if_pos rfl]
    unfold less
    rw [if_pos rfl]; omega
  have z : 0 ≤ sumF (fun n => min (max 0 (less sp x.2 n)) (cnt n xs)) ms := sumF_0 ms fun n => by have := cnt_0 n xs; omega
  cases w with
  | nil => rw [List.length_nil] at h; omega
  | cons g w' =>
    rw [List.length_cons] at h
    refine ⟨g, w', rfl, ?_, by omega⟩
    conv => lhs; unfold mv
    rw [if_pos pos]
theorem mv_no {ms : List σ} {sp : σ → Int} {w : List σ} {x : τ × σ} {xs : List (τ × σ)} (neg : ¬ 0 < sp x.2) (h : Left ms sp w (x :: xs)) : mv sp w (x :: xs) = mv sp w xs ∧ Left ms sp w xs := by
  have e : ∀ n, min (max 0 (sp n)) (cnt n (x :: xs)) = min (max 0 (sp n)) (cnt n xs) := fun n => by
    rw [cnt_cons]
    have b := cnt_0 n xs
    by_cases q : x.2 = n
    · subst q; rw [if_pos rfl]; omega
    · rw [if_neg q, Int.zero_add]
  unfold Left at h ⊢
  rw [funext e] at h
  refine ⟨?_, h⟩
  conv => lhs; unfold mv
  rw [if_neg neg]
/-- at first all that is given is wanted -/
theorem left_0 {ms : List σ} (xs : List (τ × σ)) (f : σ → Int) (f0 : ∀ n ∈ ms, 0 ≤ f n) (same : sumF f ms = sumF (fun n => cnt n xs) ms) : Left ms (fun n => cnt n xs - f n) (wants f (fun n => cnt n xs) ms) xs := by
  have k : ∀ ns : List σ, (∀ n ∈ ns, 0 ≤ f n) → sumF (fun n => min (max 0 (cnt n xs - f n)) (cnt n xs)) ns = sumF (fun n => max 0 (cnt n xs - f n)) ns := by
    intro ns
    induction ns with
    | nil => intro _; rfl
    | cons n ns ih =>
      intro h
      unfold sumF
      rw [ih fun m hm => h m (List.mem_cons_of_mem _ hm)]
      have a := h n List.mem_cons_self
      have b := cnt_0 n xs
      omega
  have g : ∀ ns : List σ, sumF (fun n => max 0 (cnt n xs - f n)) ns - sumF (fun n => max 0 (f n - cnt n xs)) ns = sumF (fun n => cnt n xs) ns - sumF f ns := by
    intro ns
    induction ns with
    | nil => rfl
    | cons n ns ih => unfold sumF; omega
  have gm := g ms
  have wl := wants_len f (fun n => cnt n xs) ms
  unfold Left
  rw [k ms f0]
  omega
theorem wants_snoc (f l : σ → Int) (n : σ) : ∀ ns : List σ, wants f l (ns ++ [n]) = wants f l ns ++ List.replicate (f n - l n).toNat n
  | [] => by show List.replicate _ n ++ [] = [] ++ _; rw [List.append_nil, List.nil_append]
  | m :: ns => by
    show List.replicate _ m ++ wants f l (ns ++ [n]) = (List.replicate _ m ++ wants f l ns) ++ _
    rw [wants_snoc f l n ns, List.append_assoc]
theorem wants_few (f l : σ → Int) (B : Nat) : ∀ ns : List σ, (∀ n ∈ ns, f n ≤ B ∧ 0 ≤ l n) → (wants f l ns).length ≤ B * ns.length
  | [], _ => Nat.zero_le _
  | n :: ns, h => by
    have a := wants_few f l B ns fun m hm => h m (List.mem_cons_of_mem _ hm)
    have b := h n List.mem_cons_self
    unfold wants
    rw [List.length_append, List.length_replicate, List.length_cons, Nat.mul_add, Nat.mul_one]
    omega
end DM
end
section
/-! Deals: the moves between. -/
namespace KD
open PySem L2 DM
/-- a list of moves -/
structure MovesAt (H : Hp) (M : Addr) (ys : List (Str × Str × Str)) : Prop where
  at_ : ∃ ts : List Addr, H M = some (.lst (ts.map V.ref)) ∧ ts.length = ys.length ∧ ∀ (i : Nat) (t : Addr) (y : Str × Str × Str), ts[i]? = some t → ys[i]? = some y → H t = some (.tup [.str y.1, .str y.2.1, .str y.2.2])
theorem MovesAt.same {H H' : Hp} {M : Addr} {ys : List (Str × Str × Str)} (h : MovesAt H M ys) (e : Same H H') : MovesAt H' M ys :=
  ⟨let ⟨ts, h1, h2, h3⟩ := h.at_; ⟨ts, e _ _ h1, h2, fun i t y a b => e _ _ (h3 i t y a b)⟩⟩
theorem MovesAt.snoc {H : Hp} {M t : Addr} {ts : List Addr} {ys : List (Str × Str × Str)} {y : Str × Str × Str} (hl : ts.length = ys.length) (h : ∀ (i : Nat) (t : Addr) (y : Str × Str × Str), ts[i]? = some t → ys[i]? = some y → H t = some (.tup [.str y.1, .str y.2.1, .str y.2.2]))
    (hm : H M = some (.lst (ts.map V.ref))) (ht : H t = none) (H1 : Hp) (e1 : H1 = upd H t (.tup [.str y.1, .str y.2.1, .str y.2.2])) : MovesAt (upd H1 M (.lst (ts.map V.ref ++ [.ref t]))) M (ys ++ [y]) := by
  subst e1
  have nt : ∀ c xs, (upd H t (.tup [.str y.1, .str y.2.1, .str y.2.2])) c = some (.tup xs) → c ≠ M := fun c xs z q => by
    rw [q, upd_ne (ne_of_none hm ht), hm] at z; cases z
  refine ⟨ts ++ [t], by rw [upd_same, List.map_append]; rfl, by rw [List.length_append, List.length_append, hl]; rfl, fun i a b ha hb => ?_⟩
  rcases Nat.lt_trichotomy i ts.length with lt | e | gt
  · rw [List.getElem?_append_left lt] at ha
    rw [List.getElem?_append_left (by omega)] at hb
    have z := h i a b ha hb
    have z' : (upd H t (.tup [.str y.1, .str y.2.1, .str y.2.2])) a = _ := made' ht _ _ z
    rw [upd_ne (nt _ _ z')]; exact z'
  · subst e
    rw [List.getElem?_append_right (Nat.le_refl _), Nat.sub_self] at ha
    rw [List.getElem?_append_right (by omega), show ts.length - ys.length = 0 by omega] at hb
    cases ha; cases hb
    rw [upd_ne (nt _ _ upd_same), upd_same]
  · rw [List.getElem?_append_right (by omega), show i - ts.length = (i - ts.length - 1) + 1 by omega] at ha
    cases ha
theorem getD_cnt (n : Str) (ds : List (Str × Str)) : (valV (tab (fun n => cnt n ds) (rdrs ds)) (.inr n)).getD (.int 0) = .int (cnt n ds) := by
  rw [val_tab]
  by_cases h : n ∈ rdrs ds
  · rw [if_pos h]; rfl
  · rw [if_neg h, cnt_out h]; rfl
theorem cnt_le (n : Str) : ∀ ds : List (Str × Str), cnt n ds ≤ ds.length
  | [] => Int.le_refl _
  | d :: ds => by
    have := cnt_le n ds
    show (if d.2 = n then 1 else 0) + cnt n ds ≤ _
    rw [List.length_cons]; split <;> omega
theorem rep_flat (k : Nat) (n : Str) : (List.replicate k [V.str n]).flatten = (List.replicate k n).map V.str := by
  induction k with
  | zero => rfl
  | succ k ih => rw [List.replicate_succ, List.replicate_succ, List.flatten_cons, ih]; rfl
def spMoves : Sp := fun vs H Q _ => ∃ (p lp : Addr) (ds : List (Str × Str)) (ns : List Str) (f : Str → Int), vs = [.ref p, .ref lp] ∧ DealAt H p ds ∧ H lp = some (.dK (tab f ns)) ∧ p ≠ lp ∧ ns.Nodup ∧ ns.length ≤ 72 ∧ (∀ d ∈ ds, d.2 ∈ ns) ∧ (∀ n ∈ ns, 0 ≤ f n ∧ f n ≤ 60) ∧ sumF f ns = sumF (fun n => cnt n ds) ns ∧
  ∀ H' M, Same H H' → H M = none → MovesAt H' M (mv (fun n => cnt n ds - f n) (wants f (fun n => cnt n ds) ns) ds) → Q (.ref M) H'
section
variable {P : Program} {w : World} {K : PySem.W.Frag} {mg : Str → Option Value} {base : Heap}
abbrev sMoves : Stmt := top 30
abbrev nMoves : List Str := ["deal", "loads", "now", "spare", "wanting", "reader", "many", "moves", "lane"]
theorem scMoves : FnScope nMoves ["deal", "loads"] (defScope sMoves) := ⟨rfl, rfl, rfl, by decide +kernel, rfl, by decide +kernel, by decide +kernel⟩
theorem ok_moves {f fL : Addr} {fd fdL : FuncData} (F : Fun K "moves_between" "moves_between" sMoves f fd) (T : TxD mg) (A_loads_of : At K mg "loads_of" fL) (G_loads_of : FnOk P w K mg base CX0 2 fL fdL ["deal"] spLoads) (b_loads_of : Binds K fdL ["deal"] []) : FnOk P w K mg base CX0 3 f fd ["deal", "loads"] spMoves := by
  refine F.ok scMoves (fun vs H Q E h => ?_) (fun cdv A outer s H vs Q E hr h => ?_)
  · obtain ⟨p, lp, ds, ns, f, rfl, _⟩ := h
    rfl
  · obtain ⟨p, lp, ds, ns, f, rfl, hd, hl, npl, nod, few, inn, fok, same, k⟩ := h
    have nd := scMoves.nd
    have hr_loads_of : Room 2 _ := hr
    have hu1 : _ < cLine := hr.in1.units0
    refine ⟨_, (pss_cons (ps_set (i := 2) nd rfl (Or.inr rfl) (pe_call G_loads_of hr_loads_of (by rfl) A_loads_of.g A_loads_of.k b_loads_of .nil pass0 (pa_cons (pv 0) pa_nil)))
      (pss_cons (ps_lock (DV.ps_setDc (i := 3) (own := [("reader", 5)]) (by rfl) nd rfl rfl (DV.sw_dict rfl rfl rfl (by decide +kernel)) (pi_keys (pv 2)) (blkOk_by (N := nMoves) (sc := defScope sMoves) (by decide +kernel)) (fun _ _ _ _ _ => (pg_name (i := 5) nd rfl (Or.inl rfl))) (fun _ _ _ _ _ => pts_nil) (fun _ _ _ _ _ => (pv 5)) (fun _ _ _ _ _ => (pe_op op_sub (pe_dget hu1 (pv 2) (pv 5) (fun _ _ => rfl)) (pe_dget hu1 (pv 1) (pv 5) (fun _ _ => rfl))))))
      (pss_cons (ps_set (i := 4) nd rfl (Or.inl rfl) (pe_lst pa_nil))
      (pss_cons (ps_lock (ps_for PassesOwn.never rfl (pi_items (pv 1)) (pg_tup rfl (pgs_cons (pg_name (i := 5) nd rfl (Or.inl rfl)) (pgs_cons (pg_name (i := 6) nd rfl (Or.inl rfl)) pgs_nil)))
        (pss_one (ps_expr (pe_bm PySem.F.plainAttrs_list PySem.F.slot_list_extend PySem.F.type_list_extend mt_extend (pv 4) (pa_cons (pe_op op_rep (pe_lst (pa_cons (pv 5) pa_nil)) (pe_op op_sub (pv 6) (pe_dget2 hu1 (pv 2) (pv 5) pe_int ⟨by rfl, by rfl, by rfl, by rfl⟩))) pa_nil))))))
      (pss_cons (ps_set (i := 7) nd rfl (Or.inl rfl) (pe_lst pa_nil))
      (pss_cons (ps_lock (ps_for PassesOwn.never rfl (pi_items (pv 0)) (pg_tup rfl (pgs_cons (pg_name (i := 8) nd rfl (Or.inl rfl)) (pgs_cons (pg_name (i := 5) nd rfl (Or.inl rfl)) pgs_nil)))
        (pss_one (ps_if (pt_cmpR op_gt (pe_dget hu1 (pv 3) (pv 5) (fun _ _ => rfl)) pe_int (nomark _))
          (pss_cons (ps_daug hu1 (pv 3) (pv 5) pe_int ip_sub (fun _ _ _ => rfl))
          (pss_one (ps_expr (pe_bm PySem.F.plainAttrs_list PySem.F.slot_list_append PySem.F.type_list_append mt_append (pv 7) (pa_cons (pe_tup (pa_cons (pv 8) (pa_cons (pv 5) (pa_cons (pe_ix ix_list (pv 4) (pe_callB call_len_seq (by rfl) T.len PySem.boot_len (pa_cons (pv 7) pa_nil)) (fun _ _ => rfl)) pa_nil)))) pa_nil)))))
          pss_nil))))
      (pss_one (ps_ret (pv 7))))))))), ?_⟩
    refine into ⟨_, rfl, p, ds, rfl, hd.at_, hd.few, fun H1 L e1 nL hL => ?_⟩
    rw [loads_tab] at hL
    -- what is to spare
    refine into ⟨L, _, hL, trivial, fun od => ?_⟩
    refine ⟨_, rfl, L, od, rfl, .inl ⟨_, upd_same, fun S nS => ?_⟩⟩
    have nLS : L ≠ S := fun q => by rw [← q, upd_same] at nS; cases nS
    have nS1 : H1 S = none := by rw [upd_ne nLS.symm] at nS; exact nS
    have hl1 := e1 _ _ hl
    have nlL : lp ≠ L := fun q => by rw [q, nL] at hl; cases hl
    refine DV.dc_it walk_keys (fun i H' => H' L = some (.frz od (.dK (tab (fun n => cnt n ds) (rdrs ds)))) ∧ H' S = some (.dK (tab (fun n => cnt n ds - f n) ((rdrs ds).take i))) ∧ ∀ b o, H1 b = some o → b ≠ L → H' b = some o) ⟨by rw [upd_ne nLS, upd_same], by rw [upd_same, List.take_zero]; rfl, fun b o z n => by rw [upd_ne (ne_of_none z nS1), upd_ne n]; exact z⟩ (fun i H' _ z => z.1) ?_ ?_
    · rintro i x H3 H4 hi' ⟨z1, z2, z3⟩ ⟨rfl, k', v, hx, rfl⟩
      obtain ⟨n, hn, rfl, rfl⟩ := tab_get hx
      have mem := List.mem_of_getElem? hn
      have mem2 : n ∈ ns := by
        obtain ⟨d, h1, h2⟩ := (mem_rdrs n ds).mp mem
        rw [← h2]; exact inn d h1
      have rl := rdrs_len ds
      have := hd.few
      refine ⟨rfl, _, rfl, _, rfl, _, rfl, L, _, rfl, getK (k := .inr n) (.inr ⟨_, z1⟩) (val_in mem), _, rfl, _, rfl, lp, _, rfl, getK (k := .inr n) (.inl (z3 _ _ hl1 nlL)) (val_in mem2), _, _, rfl, rfl, ?_⟩
      refine ⟨_, .inr n, rfl, z2, by rw [tab_len, List.length_take, sizeLine_eq]; omega, by rw [upd_ne nLS]; exact z1, ?_, fun b o z q => by rw [upd_ne (ne_of_none z nS1)]; exact z3 b o z q⟩
      rw [upd_same, take_snoc hn, ← put_same (fun n => cnt n ds - f n) _ n (new_at (rdrs_nodup ds) hn)]
    · rintro H3 ⟨z1, z2, z3⟩
      rw [tab_len, List.take_length] at z2
      refine ⟨z1, ?_⟩
      have e2' : Same H1 (upd H3 L (.dK (tab (fun n => cnt n ds) (rdrs ds)))) := same_back hL z3
      have e2 := e1.trans e2'
      have hL2 := e2' _ _ hL
      have hS2 : (upd H3 L (.dK (tab (fun n => cnt n ds) (rdrs ds)))) S = some (.dK (tab (fun n => cnt n ds - f n) (rdrs ds))) := by rw [upd_ne nLS.symm]; exact z2
      have nS0 : H S = none := e1.free nS1
      generalize upd H3 L (.dK (tab (fun n => cnt n ds) (rdrs ds))) = H4 at e2 hL2 hS2 ⊢
      clear z1 z2 z3 e2' e1 nS nS1 hl1 hL
      -- who wants
      refine into ⟨Nat.zero_le _, fun W nW => ?_⟩
      have e3 : Same H4 (upd H4 W (.lst [])) := made' nW
      have hW3 : (upd H4 W (.lst [])) W = some (.lst []) := upd_same
      have nW0 : H W = none := e2.free nW
      have nSW : S ≠ W := fun q => by rw [← q, hS2] at nW; cases nW
      have nLW : L ≠ W := fun q => by rw [← q, hL2] at nW; cases nW
      have hL3 := e3 _ _ hL2
      have hS3 := e3 _ _ hS2
      have e4 := e2.trans e3
      generalize upd H4 W (.lst []) = H5 at e4 hW3 hL3 hS3 ⊢
      clear e2 e3 hL2 hS2 nW
      have hl5 := e4 _ _ hl
      refine into ⟨lp, _, hl5, trivial, fun od2 => ⟨_, rfl, lp, od2, _, rfl, upd_same, ?_⟩⟩
      have nlW : lp ≠ W := fun q => by rw [q, nW0] at hl; cases hl
      have nlS : lp ≠ S := fun q => by rw [q, nS0] at hl; cases hl
      refine for_items (fun i σ H' => (∃ y5 y6 y7 y8, σ = [some (.ref p), some (.ref lp), some (.ref L), some (.ref S), some (.ref W), y5, y6, y7, y8]) ∧ H' lp = some (.frz od2 (.dK (tab f ns))) ∧ H' W = some (.lst ((wants f (fun n => cnt n ds) (ns.take i)).map V.str)) ∧ ∀ b o, H5 b = some o → b ≠ lp → b ≠ W → H' b = some o)
        ⟨⟨_, _, _, _, rfl⟩, upd_same, by rw [upd_ne nlW.symm, List.take_zero]; exact hW3, fun b o z n _ => by rw [upd_ne n]; exact z⟩ (fun i σ H' _ z => z.2.1) ?_ ?_
      · rintro i k' x TT σ H' hi' nT ⟨⟨y5, y6, y7, y8, rfl⟩, z1, z2, z3⟩
        obtain ⟨n, hn, rfl, rfl⟩ := tab_get hi'
        have mem := List.mem_of_getElem? hn
        have t1 : Same H' (upd H' TT (.tup [kV (.inr n), .int (f n)])) := made' nT
        refine ⟨TT, _, rfl, SqT.of upd_same, rfl, _, _, rfl, _, _, rfl, rfl, ?_⟩
        have nTW : TT ≠ W := fun q => by rw [q, z2] at nT; cases nT
        have hW' := t1 _ _ z2
        have hL' := t1 _ _ (z3 _ _ hL3 nlL.symm nLW)
        have fb := fok n mem
        have c0 := cnt_0 n ds
        have cl := cnt_le n ds
        have dfew := hd.few
        have wf := wants_few f (fun n => cnt n ds) 60 (ns.take i) fun m hm => ⟨(fok m (List.mem_of_mem_take hm)).2, cnt_0 m ds⟩
        have tl : (ns.take i).length ≤ 72 := by rw [List.length_take]; omega
        refine ⟨_, rfl, .inl ⟨rfl, _, SqL.of hW'⟩, _, rfl, by show 1 ≤ sizeLine; decide, fun B nB => ?_⟩
        have t2 : Same _ (upd (upd H' TT (.tup [kV (.inr n), .int (f n)])) B (.lst [kV (.inr n)])) := made' nB
        have hB : (upd (upd H' TT (.tup [kV (.inr n), .int (f n)])) B (.lst [kV (.inr n)])) B = some (.lst [V.str n]) := upd_same
        refine ⟨_, rfl, _, rfl, L, rfl, .inl ⟨_, .inl (t2 _ _ hL')⟩, _, rfl, _, DGet.k (k := .inr n) (t2 _ _ hL'), ?_⟩
        rw [show (valV (tab (fun n => cnt n ds) (rdrs ds)) (.inr n)).getD (.int 0) = _ from getD_cnt n ds]
        refine ⟨_, _, rfl, rfl, B, _, _, rfl, rfl, hB, by omega, by omega, (show 1 * (f n - cnt n ds).toNat ≤ sizeLine by rw [sizeLine_eq]; omega), fun Z nZ => ?_⟩
        have t3 : Same H' (upd (upd (upd H' TT (.tup [kV (.inr n), .int (f n)])) B (.lst [kV (.inr n)])) Z (.lst (List.replicate (f n - cnt n ds).toNat [V.str n]).flatten)) := (t1.trans t2).trans (made' nZ)
        have hZ : (upd (upd (upd H' TT (.tup [kV (.inr n), .int (f n)])) B (.lst [kV (.inr n)])) Z (.lst (List.replicate (f n - cnt n ds).toNat [V.str n]).flatten)) Z = some (.lst ((List.replicate (f n - cnt n ds).toNat n).map V.str)) := by rw [upd_same, rep_flat]
        generalize upd (upd (upd H' TT (.tup [kV (.inr n), .int (f n)])) B (.lst [kV (.inr n)])) Z (.lst (List.replicate (f n - cnt n ds).toNat [V.str n]).flatten) = H6 at t3 hZ ⊢
        refine ⟨W, Z, _, _, rfl, rfl, t3 _ _ z2, hZ, by rw [List.length_map, List.length_map, List.length_replicate, sizeLine_eq]; omega, ⟨_, _, _, _, rfl⟩, by rw [upd_ne nlW]; exact t3 _ _ z1, ?_, fun b o z q q2 => by rw [upd_ne q2]; exact t3 _ _ (z3 b o z q q2)⟩
        rw [upd_same, take_snoc hn, wants_snoc, List.map_append]
      · rintro σ H' ⟨⟨y5, y6, y7, y8, rfl⟩, z1, z2, z3⟩
        rw [show (tab f ns).length = ns.length from tab_len _ _, List.take_length] at z2
        refine ⟨z1, ?_⟩
        have e5 : Same H (upd H' lp (.dK (tab f ns))) := fun b o z => by
          by_cases q : b = lp
          · subst q; rw [upd_same, ← hl]; exact z
          · rw [upd_ne q]; exact z3 _ _ (e4 _ _ z) q (ne_of_none z nW0)
        have hS5 : (upd H' lp (.dK (tab f ns))) S = some (.dK (tab (fun n => cnt n ds - f n) (rdrs ds))) := by rw [upd_ne nlS.symm]; exact z3 _ _ hS3 nlS.symm nSW
        have hW5 : (upd H' lp (.dK (tab f ns))) W = some (.lst ((wants f (fun n => cnt n ds) ns).map V.str)) := by rw [upd_ne nlW.symm]; exact z2
        generalize upd H' lp (.dK (tab f ns)) = H6 at e5 hS5 hW5 ⊢
        clear z1 z2 z3 hL3 hW3 hS3 hl5 e4
        -- the moves
        refine into ⟨Nat.zero_le _, fun M nM => ?_⟩
        have nM0 : H M = none := e5.free nM
        have nSM : S ≠ M := fun q => by rw [← q, hS5] at nM; cases nM
        have nWM : W ≠ M := fun q => by rw [← q, hW5] at nM; cases nM
        have m1 : Same H6 (upd H6 M (.lst [])) := made' nM
        have e6 := e5.trans m1
        have hS6 := m1 _ _ hS5
        have hW6 := m1 _ _ hW5
        have hM6 : (upd H6 M (.lst [])) M = some (.lst []) := upd_same
        generalize upd H6 M (.lst []) = H7 at e6 hS6 hW6 hM6 ⊢
        clear e5 hS5 hW5 m1 nM
        have npM : p ≠ M := fun q => by have := hd.at_; rw [q, nM0] at this; cases this
        have npS : p ≠ S := fun q => by have := hd.at_; rw [q, nS0] at this; cases this
        have npW : p ≠ W := fun q => by have := hd.at_; rw [q, nW0] at this; cases this
        refine into ⟨p, _, e6 _ _ hd.at_, trivial, fun od3 => ⟨_, rfl, p, od3, _, rfl, upd_same, ?_⟩⟩
        have ninn : ∀ d ∈ ds, d.2 ∈ rdrs ds := fun d h => (mem_rdrs _ _).mpr ⟨d, h, rfl⟩
        refine for_items (fun i σ H' => ∃ (ys : List (Str × Str × Str)) (sp : Str → Int) (wr : List Str), (∃ y5 y6 y8, σ = [some (.ref p), some (.ref lp), some (.ref L), some (.ref S), some (.ref W), y5, y6, some (.ref M), y8]) ∧
          mv (fun n => cnt n ds - f n) (wants f (fun n => cnt n ds) ns) ds = ys ++ mv sp wr (ds.drop i) ∧ wants f (fun n => cnt n ds) ns = (wants f (fun n => cnt n ds) ns).take ys.length ++ wr ∧ ys.length ≤ i ∧ ys.length + wr.length = (wants f (fun n => cnt n ds) ns).length ∧ Left ns sp wr (ds.drop i) ∧
          H' p = some (.frz od3 (.dK (dealV ds))) ∧ H' S = some (.dK (tab sp (rdrs ds))) ∧ MovesAt H' M ys ∧ H' W = some (.lst ((wants f (fun n => cnt n ds) ns).map V.str)) ∧ ∀ b o, H b = some o → b ≠ p → H' b = some o)
          ⟨[], fun n => cnt n ds - f n, _, ⟨_, _, _, rfl⟩, rfl, by rw [List.length_nil, List.take_zero]; rfl, Nat.le_refl _, by rw [List.length_nil, Nat.zero_add], left_0 ds f (fun n hn => (fok n hn).1) same, upd_same, by rw [upd_ne npS.symm]; exact hS6,
            ⟨[], by rw [upd_ne npM.symm]; exact hM6, rfl, fun i t y h => by cases h⟩, by rw [upd_ne npW.symm]; exact hW6, fun b o z q => by rw [upd_ne q]; exact e6 _ _ z⟩ (fun i σ H' _ ⟨_, _, _, _, _, _, _, _, _, z, _⟩ => z) ?_ ?_
        · rintro i k' x TT σ H' hi' nT ⟨ys, sp, wr, ⟨y5, y6, y8, rfl⟩, em, ew, le, el, lf, z1, z2, z3, z4, z5⟩
          obtain ⟨d, hdi, rfl, rfl⟩ : ∃ d, ds[i]? = some d ∧ k' = .inr d.1 ∧ x = .str d.2 := by
            unfold dealV at hi'
            rw [List.getElem?_map] at hi'
            cases e : ds[i]? with
            | none => rw [e] at hi'; cases hi'
            | some d => rw [e] at hi'; cases hi'; exact ⟨d, rfl, rfl, rfl⟩
          have dm := List.mem_of_getElem? hdi
          have t1 : Same H' (upd H' TT (.tup [kV (.inr d.1), .str d.2])) := made' nT
          refine ⟨TT, _, rfl, SqT.of upd_same, rfl, _, _, rfl, _, _, rfl, rfl, ?_⟩
          have hS' := t1 _ _ z2
          have mem := ninn d dm
          refine ⟨_, rfl, _, rfl, S, _, rfl, getK (k := .inr d.2) (.inl hS') (val_in mem), _, _, rfl, rfl, _, rfl, ?_⟩
          rw [drop_cons hdi] at em lf
          by_cases c1 : 0 < sp d.2
          · rw [decide_eq_true c1]
            refine iteT ?_
            obtain ⟨g, w', ewr, em2, lf2⟩ := mv_yes nod (inn d dm) c1 lf
            have room : (tab sp (rdrs ds)).length < sizeLine := by
              have a := rdrs_len ds
              have b := hd.few
              rw [tab_len, sizeLine_eq]; omega
            have ndm := rdrs_nodup ds
            obtain ⟨ts, h1, h2, h3⟩ := z3.at_
            have tlen : ts.length ≤ 60 := by
              have b := hd.few
              have c : i < ds.length := (List.getElem?_eq_some_iff.mp hdi).1
              omega
            refine into ⟨_, rfl, _, rfl, S, _, rfl, getK (k := .inr d.2) (.inl hS') (val_in mem), _, _, rfl, rfl, _, DPut.k (k := .inr d.2) hS' room, ?_⟩
            have ep : putK (tab sp (rdrs ds)) (.inr d.2) (.int (sp d.2 - 1)) = tab (less sp d.2) (rdrs ds) := by
              rw [put_tab, if_pos mem]
              refine tab_congr fun n _ => ?_
              unfold less
              by_cases q : n = d.2
              · rw [if_pos q, if_pos q, q]
              · rw [if_neg q, if_neg q]
            rw [ep]
            have hpS : (upd (upd H' TT (.tup [kV (.inr d.1), .str d.2])) S (.dK (tab (less sp d.2) (rdrs ds)))) p = some (.frz od3 (.dK (dealV ds))) := by rw [upd_ne npS]; exact t1 _ _ z1
            have hSS : (upd (upd H' TT (.tup [kV (.inr d.1), .str d.2])) S (.dK (tab (less sp d.2) (rdrs ds)))) S = some (.dK (tab (less sp d.2) (rdrs ds))) := upd_same
            have hMS : (upd (upd H' TT (.tup [kV (.inr d.1), .str d.2])) S (.dK (tab (less sp d.2) (rdrs ds)))) M = some (.lst (ts.map V.ref)) := by rw [upd_ne nSM.symm]; exact t1 _ _ h1
            have hWS : (upd (upd H' TT (.tup [kV (.inr d.1), .str d.2])) S (.dK (tab (less sp d.2) (rdrs ds)))) W = some (.lst ((wants f (fun n => cnt n ds) ns).map V.str)) := by rw [upd_ne nSW.symm]; exact t1 _ _ z4
            have h3S : ∀ (i : Nat) (t : Addr) (y : Str × Str × Str), ts[i]? = some t → ys[i]? = some y → (upd (upd H' TT (.tup [kV (.inr d.1), .str d.2])) S (.dK (tab (less sp d.2) (rdrs ds)))) t = some (.tup [.str y.1, .str y.2.1, .str y.2.2]) := fun i t y a b => by
              have z := t1 _ _ (h3 i t y a b)
              rw [upd_ne fun q => by rw [q, hS'] at z; cases z]; exact z
            have hk : ∀ b o, H b = some o → b ≠ p → (upd (upd H' TT (.tup [kV (.inr d.1), .str d.2])) S (.dK (tab (less sp d.2) (rdrs ds)))) b = some o := fun b o z q => by
              rw [upd_ne (ne_of_none z nS0)]; exact t1 _ _ (z5 b o z q)
            generalize upd (upd H' TT (.tup [kV (.inr d.1), .str d.2])) S (.dK (tab (less sp d.2) (rdrs ds))) = H8 at hpS hSS hMS hWS h3S hk ⊢
            have at_g : ((wants f (fun n => cnt n ds) ns).map V.str)[ts.length]? = some (.str g) := by
              rw [h2, ew, ewr, List.map_append, List.getElem?_append_right (by rw [List.length_map, List.length_take]; omega), List.length_map, List.length_take, show ys.length - min ys.length (wants f (fun n => cnt n ds) ns).length = 0 by omega]; rfl
            refine ⟨_, rfl, .inl ⟨rfl, _, SqL.of hMS⟩, _, rfl, _, rfl, _, rfl, _, rfl, M, _, rfl, .inl (SqL.of hMS), ?_⟩
            rw [List.length_map]
            refine ⟨W, _, _, .str g, rfl, rfl, SqL.of hWS, atI_nat at_g, by show 3 ≤ sizeLine; decide, fun t nt => ?_⟩
            have u1 : Same H8 (upd H8 t (.tup [.str d.1, .str d.2, .str g])) := made' nt
            refine ⟨M, _, _, rfl, rfl, u1 _ _ hMS, by rw [List.length_map, sizeLine_eq]; omega, ys ++ [(d.1, d.2, g)], less sp d.2, w', ⟨_, _, _, rfl⟩, ?_, ?_, ?_, ?_, lf2, ?_, ?_, ?_, ?_, fun b o z q => ?_⟩
            · rw [em, em2, List.append_assoc]; rfl
            · rw [List.length_append, List.length_singleton]
              have z := ew
              rw [ewr] at z
              have l : ((wants f (fun n => cnt n ds) ns).take ys.length).length = ys.length := by rw [List.length_take]; omega
              have l1 : (wants f (fun n => cnt n ds) ns).take (ys.length + 1) = (wants f (fun n => cnt n ds) ns).take ys.length ++ [g] := by
                refine take_snoc ?_
                rw [z, List.getElem?_append_right (by omega), l, Nat.sub_self]; rfl
              rw [l1, List.append_assoc]; exact z
            · rw [List.length_append, List.length_singleton]; omega
            · rw [List.length_append, List.length_singleton]
              rw [ewr, List.length_cons] at el; omega
            · rw [upd_ne npM]; exact u1 _ _ hpS
            · rw [upd_ne nSM]; exact u1 _ _ hSS
            · exact MovesAt.snoc h2 h3S hMS nt _ rfl
            · rw [upd_ne nWM]; exact u1 _ _ hWS
            · rw [upd_ne (ne_of_none z nM0)]; exact u1 _ _ (hk b o z q)
          · rw [decide_eq_false c1]
            obtain ⟨em2, lf2⟩ := mv_no c1 lf
            exact iteF ⟨ys, sp, wr, ⟨_, _, _, rfl⟩, by rw [em, em2], ew, by omega, el, lf2, t1 _ _ z1, hS', z3.same t1, t1 _ _ z4, fun b o z q => t1 _ _ (z5 b o z q)⟩
        · rintro σ H' ⟨ys, sp, wr, ⟨y5, y6, y8, rfl⟩, em, ew, le, el, lf, z1, z2, z3, z4, z5⟩
          rw [show (dealV ds).length = ds.length from List.length_map _, List.drop_length] at em
          have em' : mv (fun n => cnt n ds - f n) (wants f (fun n => cnt n ds) ns) ds = ys := by rw [em]; show ys ++ [] = ys; rw [List.append_nil]
          refine ⟨z1, _, rfl, k _ M (same_back hd.at_ z5) nM0 ?_⟩
          rw [em']
          exact ⟨let ⟨ts, h1, h2, h3⟩ := z3.at_; ⟨ts, by rw [upd_ne npM.symm]; exact h1, h2, fun i t y a b => by
            have z := h3 i t y a b
            rw [upd_ne fun q => by rw [q, z1] at z; cases z]; exact z⟩⟩
end
end KD
end
section
/-! Deals: what is a deal, and what are bounds. -/
namespace KD
open PySem L2 DM
/-- a value that is looked at: its kind -/
inductive Pl (K : PySem.W.Frag) (H : Hp) : V → String → Prop where
  | non : Pl K H .non "NoneType"
  | bl (b : Bool) : Pl K H (.bl b) "bool"
  | int (i : Int) : Pl K H (.int i) "int"
  | str {x : Str} (h : x.length ≤ sizeLine) : Pl K H (.str x) "str"
  | lst {a : Addr} {xs : List V} (h : H a = some (.lst xs)) : Pl K H (.ref a) "list"
  | tup {a : Addr} {xs : List V} (h : H a = some (.tup xs)) : Pl K H (.ref a) "tuple"
  | dK {a : Addr} {kvs : List (Key × V)} (h : H a = some (.dK kvs)) : Pl K H (.ref a) "dict"
theorem Pl.tyB {K : PySem.W.Frag} {H : Hp} {v : V} {T : String} (h : Pl K H v T) : TyB K H v T := by
  cases h with
  | non => exact .non
  | bl b => exact .bl b
  | int i => exact .int i
  | str h => exact .str _
  | lst h => exact .lst (SqL.of h)
  | tup h => exact .tup (SqT.of h)
  | dK h => exact .dK h
theorem Pl.tyX {K : PySem.W.Frag} {H : Hp} {v : V} {T : String} (h : Pl K H v T) : TyX K H v (.type T) := by
  cases h with
  | non => exact .base .non
  | bl b => exact .base (.bl b)
  | int i => exact .base (.int i)
  | str h => exact .base (.str _)
  | lst h => exact .base (.lst h)
  | tup h => exact .base (.tup h)
  | dK h => exact .base (.dK h)
theorem Pl.same {K : PySem.W.Frag} {H H' : Hp} {v : V} {T : String} (e : Same H H') (h : Pl K H v T) : Pl K H' v T := by
  cases h with
  | non => exact .non
  | bl b => exact .bl b
  | int i => exact .int i
  | str h => exact .str h
  | lst h => exact .lst (e _ _ h)
  | tup h => exact .tup (e _ _ h)
  | dK h => exact .dK (e _ _ h)
theorem Pl.kit {K : PySem.W.Frag} {H : Hp} {v : V} {T : String} (h : Pl K H v T) (c : String) (hc : c = "str" ∨ c = "tuple" ∨ c = "list" ∨ c = "dict") : PySem.W.kitOne K (.type T) (.type c) = some (decide (T = c)) := by
  refine kit_ty ?_
  cases h <;> rcases hc with rfl | rfl | rfl | rfl <;> decide +kernel
/-! ### the mathematics -/
def numB : V → Bool
  | .int i => decide (0 ≤ i)
  | _ => false
def wordS (x : Str) : Bool := decide (1 ≤ x.length) && decide (x.length ≤ 8) && Txt.isascii x && Txt.isalpha x && Txt.islower x
def wordB : V → Bool
  | .str x => wordS x
  | _ => false

def spNumP (K : PySem.W.Frag) : Sp := fun vs H Q _ => ∃ (v : V) (ty : String), vs = [v] ∧ Pl K H v ty ∧ Q (.bl (numB v)) H
def spWordP (K : PySem.W.Frag) : Sp := fun vs H Q _ => ∃ (v : V) (ty : String), vs = [v] ∧ Pl K H v ty ∧ Q (.bl (wordB v)) H
def PlV (K : PySem.W.Frag) (H : Hp) (v : V) : Prop := ∃ ty, Pl K H v ty
theorem PlV.same {K : PySem.W.Frag} {H H' : Hp} {v : V} (e : Same H H') (h : PlV K H v) : PlV K H' v := let ⟨ty, q⟩ := h; ⟨ty, q.same e⟩
def countB : V → Bool
  | .int i => decide (0 ≤ i) && decide (i ≤ 60)
  | _ => false
def leB : V → V → Bool
  | .int i, .int j => decide (i ≤ j)
  | _, _ => false
def spCount (K : PySem.W.Frag) : Sp := fun vs H Q _ => ∃ v : V, vs = [v] ∧ PlV K H v ∧ Q (.bl (countB v)) H
inductive RangeIs (K : PySem.W.Frag) (H : Hp) : V → Bool → Prop where
  | no {v : V} {ty : String} (h : Pl K H v ty) (n : ty ≠ "tuple") (m : ty ≠ "dict") : RangeIs K H v false
  | few {a : Addr} {xs : List V} (h : H a = some (.tup xs)) (n : xs.length ≠ 2) : RangeIs K H (.ref a) false
  | two {a : Addr} {x y : V} (h : H a = some (.tup [x, y])) (hx : (∃ i, x = .int i) ∨ ∃ b, x = .bl b) (hy : (∃ i, y = .int i) ∨ ∃ b, y = .bl b) : RangeIs K H (.ref a) (countB x && countB y && leB x y)
def spRange (K : PySem.W.Frag) : Sp := fun vs H Q _ => ∃ (v : V) (b : Bool), vs = [v] ∧ RangeIs K H v b ∧ Q (.bl b) H
def spNames (K : PySem.W.Frag) : Sp := fun vs H Q _ => ∃ (a : Addr) (xs : List V), vs = [.ref a] ∧ H a = some (.lst xs) ∧ xs.length ≤ 60 ∧ (∀ x ∈ xs, PlV K H x) ∧ ∀ H', Same H H' → Q (.bl (xs.all wordB)) H'
inductive DealIs (K : PySem.W.Frag) (H : Hp) : V → Bool → Prop where
  | no {v : V} {ty : String} (h : Pl K H v ty) (n : ty ≠ "dict") : DealIs K H v false
  | dict {a : Addr} {kvs : List (Key × V)} (h : H a = some (.dK kvs)) (hk : ∀ kv ∈ kvs, PlV K H (kV kv.1)) (hv : ∀ kv ∈ kvs, PlV K H kv.2) : DealIs K H (.ref a) (decide (kvs.length ≤ 60) && ((kvs.all fun kv => wordB (kV kv.1)) && kvs.all fun kv => wordB kv.2))
def spIsDeal (K : PySem.W.Frag) : Sp := fun vs H Q _ => ∃ (v : V) (b : Bool), vs = [v] ∧ DealIs K H v b ∧ ∀ H', Same H H' → Q (.bl b) H'
inductive ToldIs (K : PySem.W.Frag) (H : Hp) : V → Bool → Prop where
  | no {v : V} {ty : String} (h : Pl K H v ty) (n : ty ≠ "dict") : ToldIs K H v false
  | dict {a : Addr} {kvs : List (Key × V)} (h : H a = some (.dK kvs)) (hk : ∀ kv ∈ kvs, PlV K H (kV kv.1)) : ToldIs K H (.ref a) (decide (1 ≤ kvs.length) && (decide (kvs.length ≤ 12) && kvs.all fun kv => wordB (kV kv.1)))
def spTold (K : PySem.W.Frag) : Sp := fun vs H Q _ => ∃ (v : V) (b : Bool), vs = [v] ∧ ToldIs K H v b ∧ ∀ H', Same H H' → Q (.bl b) H'
inductive BoundsIs (K : PySem.W.Frag) (H : Hp) : V → Bool → Prop where
  | no {v : V} {ty : String} (h : Pl K H v ty) (n : ty ≠ "dict") : BoundsIs K H v false
  | dict {a : Addr} {kvs : List (Key × V)} (h : H a = some (.dK kvs)) (hk : ∀ kv ∈ kvs, PlV K H (kV kv.1)) (g : Key × V → Bool) (hr : ∀ kv ∈ kvs, RangeIs K H kv.2 (g kv)) :
      BoundsIs K H (.ref a) ((decide (1 ≤ kvs.length) && (decide (kvs.length ≤ 12) && kvs.all fun kv => wordB (kV kv.1))) && kvs.all g)
def spAreBounds (K : PySem.W.Frag) : Sp := fun vs H Q _ => ∃ (v : V) (b : Bool), vs = [v] ∧ BoundsIs K H v b ∧ ∀ H', Same H H' → Q (.bl b) H'
theorem kit_tup {K : PySem.W.Frag} : PySem.W.kitOne K (.type "tuple") (.type "tuple") = some true := kit_ty (by decide +kernel)
theorem kit_dict {K : PySem.W.Frag} : PySem.W.kitOne K (.type "dict") (.type "dict") = some true := kit_ty (by decide +kernel)
theorem RangeIs.off {K : PySem.W.Frag} {H H' : Hp} {a : Addr} {kvs : List (Key × V)} {v : V} {b : Bool} (ha : H a = some (.dK kvs)) (e : ∀ c o, H c = some o → c ≠ a → H' c = some o) (h : RangeIs K H v b) : RangeIs K H' v b := by
  have ne : ∀ c o, H c = some o → (∀ l, o ≠ .dK l) → H' c = some o := fun c o z n => e c o z fun q => by rw [q, ha] at z; exact n _ (Option.some.inj z).symm
  cases h with
  | no h n m =>
    refine .no ?_ n m
    cases h with
    | non => exact .non
    | bl b => exact .bl b
    | int i => exact .int i
    | str h => exact .str h
    | lst h => exact .lst (ne _ _ h fun l z => by cases z)
    | tup h => exact .tup (ne _ _ h fun l z => by cases z)
    | dK h => exact absurd rfl m
  | few h n => exact .few (ne _ _ h fun l z => by cases z) n
  | two h hx hy => exact .two (ne _ _ h fun l z => by cases z) hx hy
theorem Pl.ne {K : PySem.W.Frag} {H : Hp} {v : V} {ty c : String} (h : Pl K H v ty) (n : ty ≠ c) (hc : c = "str" ∨ c = "tuple" ∨ c = "list" ∨ c = "dict") : PySem.W.kitOne K (.type ty) (.type c) = some false := by
  rw [h.kit c hc, decide_eq_false n]
section
variable {P : Program} {w : World} {K : PySem.W.Frag} {mg : Str → Option Value} {base : Heap}
abbrev sNum : Stmt := top 3
theorem scNum : FnScope ["value"] ["value"] (defScope sNum) := ⟨rfl, rfl, rfl, by decide +kernel, rfl, by decide +kernel, by decide +kernel⟩
theorem ok_num {f : Addr} {fd : FuncData} (F : Fun K "is_number" "is_number" sNum f fd) (T : TxD mg) : FnOk P w K mg base CX0 1 f fd ["value"] (spNumP K) := by
  refine F.ok scNum (fun vs H Q E h => ?_) (fun cdv A outer s H vs Q E hr h => ?_)
  · obtain ⟨v, ty, rfl, _⟩ := h
    rfl
  · obtain ⟨v, ty, rfl, pl, k⟩ := h
    refine ⟨_, (pss_one (ps_ret (pe_and (pe_cmpR op_isTyB (pe_callTy call_type1 (by rfl) T.type (by decide +kernel) (pa_cons (pv 0) pa_nil)) (pe_bltn (v := .ty "int") (by rfl) T.int (by decide +kernel) rfl) (nomark _)) (pe_one (pe_cmpR op_ge (pv 0) pe_int (nomark _)))))), ?_⟩
    refine ⟨_, rfl, v, ty, rfl, pl.tyB, ty, "int", rfl, rfl, _, rfl, ?_⟩
    cases pl with
    | int i => exact iteT ⟨_, rfl, _, _, rfl, rfl, k⟩
    | non => exact iteF k
    | bl b => exact iteF k
    | str h => exact iteF k
    | lst h => exact iteF k
    | tup h => exact iteF k
    | dK h => exact iteF k
abbrev sWord : Stmt := top 4
theorem scWord : FnScope ["value"] ["value"] (defScope sWord) := ⟨rfl, rfl, rfl, by decide +kernel, rfl, by decide +kernel, by decide +kernel⟩
theorem ok_word {f : Addr} {fd : FuncData} (F : Fun K "is_word" "is_word" sWord f fd) (T : TxD mg) : FnOk P w K mg base CX0 1 f fd ["value"] (spWordP K) := by
  refine F.ok scWord (fun vs H Q E h => ?_) (fun cdv A outer s H vs Q E hr h => ?_)
  · obtain ⟨v, ty, rfl, _⟩ := h
    rfl
  · obtain ⟨v, ty, rfl, pl, k⟩ := h
    refine ⟨_, (pss_cons (ps_if (PW.pt (pw_or (pt_not (pt_val (pe_callB call_isi (by rfl) T.isinstance (by decide +kernel) (pa_cons (pv 0) (pa_cons (pe_bltn (v := .ty "str") (by rfl) T.str (by decide +kernel) rfl) pa_nil))))) (pw_or1 (pt_not (pt_chain op_le op_le pe_int (pe_callB call_len_str (by rfl) T.len PySem.boot_len (pa_cons (pv 0) pa_nil)) pe_int)))))
        (pss_one (ps_ret pe_bl))
        pss_nil)
      (pss_one (ps_ret (pe_and (pe_m0 PySem.F.slot_str_isascii PySem.F.type_str_isascii mt_isascii (pv 0)) (pe_and (pe_m0 PySem.F.slot_str_isalpha PySem.F.type_str_isalpha mt_isalpha (pv 0)) (pe_one (pe_m0 PySem.F.slot_str_islower PySem.F.type_str_islower mt_islower (pv 0)))))))), ?_⟩
    refine ⟨_, rfl, v, .ty "str", _, _, _, rfl, .ty "str", pl.tyX, pl.kit "str" (.inl rfl), _, rfl, ?_⟩
    have no : (∀ x, v ≠ .str x) → ty ≠ "str" ∧ wordB v = false := fun hn => by
      cases pl <;> first | exact ⟨by decide, rfl⟩ | exact absurd rfl (hn _)
    cases pl with
    | @str x hx =>
      refine iteF ?_
      refine ⟨_, rfl, x, rfl, hx, _, _, rfl, rfl, _, rfl, ?_⟩
      have wd : wordB (.str x) = (decide (1 ≤ x.length) && decide (x.length ≤ 8) && Txt.isascii x && Txt.isalpha x && Txt.islower x) := rfl
      rw [wd] at k
      have rest : decide (1 ≤ x.length) = true → decide (x.length ≤ 8) = true → (tRet (tAndV (tM0 (fun x xs H Q => ∃ a, x = V.str a ∧ xs = [] ∧ True ∧ Q (V.bl (Txt.isascii a)) H) (tVar 0)) (tAndV (tM0 (fun x xs H Q => ∃ a, x = V.str a ∧ xs = [] ∧ True ∧ Q (V.bl (Txt.isalpha a)) H) (tVar 0))
          (tM0 (fun x xs H Q => ∃ a, x = V.str a ∧ xs = [] ∧ True ∧ Q (V.bl (Txt.islower a)) H) (tVar 0)))) : TS) { nx := fun x H' => Q V.non H', rt := Q } (L2.start [Str.ofString "value"] [V.str x]) H := fun h1 h2 => by
        rw [h1, h2, Bool.true_and, Bool.true_and] at k
        refine ⟨_, rfl, ⟨x, rfl⟩, x, rfl, rfl, trivial, _, rfl, ?_⟩
        cases z1 : Txt.isascii x with
        | false => rw [z1] at k; exact iteF k
        | true =>
          rw [z1] at k
          refine iteT ⟨_, rfl, ⟨x, rfl⟩, x, rfl, rfl, trivial, _, rfl, ?_⟩
          cases z2 : Txt.isalpha x with
          | false => rw [z2] at k; exact iteF k
          | true =>
            rw [z2] at k
            exact iteT ⟨_, rfl, ⟨x, rfl⟩, x, rfl, rfl, trivial, k⟩
      have e1 : decide ((1 : Int) ≤ (x.length : Int)) = decide (1 ≤ x.length) := by
        rw [decide_eq_decide]; omega
      rw [e1]
      cases c1 : decide (1 ≤ x.length) with
      | false =>
        rw [c1] at k
        exact iteF ⟨_, rfl, iteT k⟩
      | true =>
        refine iteT ⟨_, _, rfl, rfl, _, rfl, ?_⟩
        have e2 : decide ((x.length : Int) ≤ 8) = decide (x.length ≤ 8) := by
          rw [decide_eq_decide]; omega
        rw [e2]
        cases c2 : decide (x.length ≤ 8) with
        | false =>
          rw [c1, c2] at k
          exact iteT k
        | true => exact iteF (rest c1 c2)
    | non => exact iteT (iteT k)
    | bl b => exact iteT (iteT k)
    | int i => exact iteT (iteT k)
    | lst h => exact iteT (iteT k)
    | tup h => exact iteT (iteT k)
    | dK h => exact iteT (iteT k)
abbrev sCount : Stmt := top 18
theorem scCount : FnScope ["value"] ["value"] (defScope sCount) := ⟨rfl, rfl, rfl, by decide +kernel, rfl, by decide +kernel, by decide +kernel⟩
theorem ok_count {f fN : Addr} {fd fdN : FuncData} (F : Fun K "is_count" "is_count" sCount f fd) (T : TxD mg) (A_is_number : At K mg "is_number" fN) (G_is_number : FnOk P w K mg base CX0 1 fN fdN ["value"] (spNumP K)) (b_is_number : Binds K fdN ["value"] []) : FnOk P w K mg base CX0 2 f fd ["value"] (spCount K) := by
  refine F.ok scCount (fun vs H Q E h => ?_) (fun cdv A outer s H vs Q E hr h => ?_)
  · obtain ⟨v, rfl, _⟩ := h
    rfl
  · obtain ⟨v, rfl, ⟨ty, pl⟩, k⟩ := h
    have hr_is_number : Room 1 _ := hr
    obtain ⟨t60, g60⟩ := T.g_MOST_LANES
    refine ⟨_, (pss_one (ps_ret (pe_and (pe_call G_is_number hr_is_number (by rfl) A_is_number.g A_is_number.k b_is_number .nil pass0 (pa_cons (pv 0) pa_nil)) (pe_one (pe_cmpR op_le (pv 0) (pe_glob (v := .int 60) (by rfl) g60 ⟨_, rfl⟩) (nomark _)))))), ?_⟩
    refine ⟨_, rfl, v, ty, rfl, pl, _, rfl, ?_⟩
    cases pl with
    | int i =>
      have e : countB (.int i) = (decide (0 ≤ i) && decide (i ≤ 60)) := rfl
      rw [e] at k
      show (if decide (0 ≤ i) = true then _ else _)
      cases c : decide (0 ≤ i) with
      | true => rw [c] at k; exact iteT ⟨_, rfl, _, _, rfl, rfl, k⟩
      | false => rw [c] at k; exact iteF k
    | non => exact iteF k
    | bl b => exact iteF k
    | str h => exact iteF k
    | lst h => exact iteF k
    | tup h => exact iteF k
    | dK h => exact iteF k
abbrev sRange : Stmt := top 21
theorem scRange : FnScope ["pair"] ["pair"] (defScope sRange) := ⟨rfl, rfl, rfl, by decide +kernel, rfl, by decide +kernel, by decide +kernel⟩
theorem ok_range {f fN : Addr} {fd fdN : FuncData} (F : Fun K "is_range" "is_range" sRange f fd) (T : TxD mg) (A_is_count : At K mg "is_count" fN) (G_is_count : FnOk P w K mg base CX0 2 fN fdN ["value"] (spCount K)) (b_is_count : Binds K fdN ["value"] []) : FnOk P w K mg base CX0 3 f fd ["pair"] (spRange K) := by
  refine F.ok scRange (fun vs H Q E h => ?_) (fun cdv A outer s H vs Q E hr h => ?_)
  · obtain ⟨v, b, rfl, _⟩ := h
    rfl
  · obtain ⟨v, b, rfl, is, k⟩ := h
    have hr_is_count : Room 2 _ := hr
    refine ⟨_, (pss_cons (ps_if (PW.pt (pw_or (pt_not (pt_val (pe_callB call_isi (by rfl) T.isinstance (by decide +kernel) (pa_cons (pv 0) (pa_cons (pe_bltn (v := .ty "tuple") (by rfl) T.tuple (by decide +kernel) rfl) pa_nil))))) (pw_or1 (pt_cmpR op_ne (pe_callB call_len_seq (by rfl) T.len PySem.boot_len (pa_cons (pv 0) pa_nil)) pe_int (nomark _)))))
        (pss_one (ps_ret pe_bl))
        pss_nil)
      (pss_one (ps_ret (pe_and (pe_call G_is_count hr_is_count (by rfl) A_is_count.g A_is_count.k b_is_count .nil pass0 (pa_cons (pe_ix ix_tup (pv 0) pe_int (fun _ _ => rfl)) pa_nil)) (pe_and (pe_call G_is_count hr_is_count (by rfl) A_is_count.g A_is_count.k b_is_count .nil pass0 (pa_cons (pe_ix ix_tup (pv 0) pe_int (fun _ _ => rfl)) pa_nil)) (pe_one (pe_cmpR op_le (pe_ix ix_tup (pv 0) pe_int (fun _ _ => rfl)) (pe_ix ix_tup (pv 0) pe_int (fun _ _ => rfl)) (nomark _)))))))), ?_⟩
    cases is with
    | @no v ty h n m => exact ⟨_, rfl, v, .ty "tuple", _, _, _, rfl, .ty "tuple", h.tyX, h.ne n (by decide), _, rfl, iteT (iteT k)⟩
    | @few a xs h n =>
      refine ⟨_, rfl, .ref a, .ty "tuple", _, _, _, rfl, .ty "tuple", .base (.tup h), kit_tup, _, rfl, iteF ⟨_, rfl, a, _, rfl, .inr (SqT.of h), rfl, _, rfl, ?_⟩⟩
      refine iteT' ?_ k
      simp
      omega
    | @two a x y h hx hy =>
      refine ⟨_, rfl, .ref a, .ty "tuple", _, _, _, rfl, .ty "tuple", .base (.tup h), kit_tup, _, rfl, iteF ⟨_, rfl, a, _, rfl, .inr (SqT.of h), rfl, _, rfl, iteF ?_⟩⟩
      have px : PlV K H x := by
        rcases hx with ⟨i, rfl⟩ | ⟨b, rfl⟩
        · exact ⟨_, .int i⟩
        · exact ⟨_, .bl b⟩
      have py : PlV K H y := by
        rcases hy with ⟨i, rfl⟩ | ⟨b, rfl⟩
        · exact ⟨_, .int i⟩
        · exact ⟨_, .bl b⟩
      refine ⟨_, rfl, a, _, _, x, rfl, rfl, SqT.of h, atI_nat (j := 0) rfl, x, rfl, px, _, rfl, ?_⟩
      cases c1 : countB x with
      | false => rw [c1] at k; exact iteF k
      | true =>
        rw [c1] at k
        refine iteT ⟨_, rfl, a, _, _, y, rfl, rfl, SqT.of h, atI_nat (j := 1) rfl, y, rfl, py, _, rfl, ?_⟩
        cases c2 : countB y with
        | false => rw [c2] at k; exact iteF k
        | true =>
          rw [c2] at k
          rcases hx with ⟨i, rfl⟩ | ⟨b, rfl⟩
          · rcases hy with ⟨j, rfl⟩ | ⟨b, rfl⟩
            · exact iteT ⟨_, rfl, a, _, _, .int i, rfl, rfl, SqT.of h, atI_nat (j := 0) rfl, _, rfl, a, _, _, .int j, rfl, rfl, SqT.of h, atI_nat (j := 1) rfl, _, _, rfl, rfl, k⟩
            · cases c2
          · cases c1
abbrev sNames : Stmt := top 16
abbrev nNames : List Str := ["names", "name"]
theorem scNames : FnScope nNames ["names"] (defScope sNames) := ⟨rfl, rfl, rfl, by decide +kernel, rfl, by decide +kernel, by decide +kernel⟩
theorem ok_names {f fN : Addr} {fd fdN : FuncData} (F : Fun K "are_names" "are_names" sNames f fd) (T : TxD mg) (A_is_word : At K mg "is_word" fN) (G_is_word : FnOk P w K mg base CX0 1 fN fdN ["value"] (spWordP K)) (b_is_word : Binds K fdN ["value"] []) : FnOk P w K mg base CX0 2 f fd ["names"] (spNames K) := by
  refine F.ok scNames (fun vs H Q E h => ?_) (fun cdv A outer s H vs Q E hr h => ?_)
  · obtain ⟨a, xs, rfl, _⟩ := h
    rfl
  · obtain ⟨a, xs, rfl, ha, few, pl, k⟩ := h
    have nd := scNames.nd
    have hr_is_word : Room 1 _ := hr
    refine ⟨_, (pss_one (ps_ret (pe_callB (cr_all rfl) (by rfl) T.all (by decide +kernel) (pa_cons (pe_lc (own := [("name", 1)]) (by rfl) nd (pi_list (pv 0)) (blkOk_by (N := nNames) (sc := defScope sNames) (by decide +kernel)) (fun _ _ _ _ _ => (pg_name (i := 1) nd rfl (Or.inl rfl))) (fun _ _ _ _ _ => pts_nil) (fun _ _ _ _ _ => (pe_call G_is_word hr_is_word (by rfl) A_is_word.g A_is_word.k b_is_word .nil pass0 (pa_cons (pv 1) pa_nil)))) pa_nil)))), ?_⟩
    refine ⟨_, rfl, a, rfl, ⟨_, SqL.of ha⟩, fun D hD => lc_list (K := K) (a := a) (xs := xs) (fun i H' => H' D = some (.lst (((xs.take i).map wordB).map V.bl)) ∧ Same H H') ⟨upd_same, made' hD⟩ (fun i H' _ ⟨_, e⟩ => SqL.of (e _ _ ha)) ?_ ?_⟩
    · rintro i x H2 hx ⟨h2, e⟩
      have lt : i < xs.length := (List.getElem?_eq_some_iff.mp hx).1
      obtain ⟨ty, p⟩ := (pl x (List.mem_of_getElem? hx)).same e
      refine ⟨rfl, _, rfl, x, ty, rfl, p, _, h2, by rw [List.length_map, List.length_map, List.length_take, sizeLine_eq]; omega, ?_, put_in e hD⟩
      rw [upd_same, take_snoc hx, List.map_append, List.map_append]; rfl
    · rintro H2 ⟨h2, e⟩
      rw [List.take_length] at h2
      refine ⟨D, _, rfl, SqL.of h2, ?_⟩
      rw [List.all_map]
      exact k _ e
abbrev sIsDeal : Stmt := top 17
theorem scIsDeal : FnScope ["deal"] ["deal"] (defScope sIsDeal) := ⟨rfl, rfl, rfl, by decide +kernel, rfl, by decide +kernel, by decide +kernel⟩
theorem ok_isDeal {f fN : Addr} {fd fdN : FuncData} (F : Fun K "is_deal" "is_deal" sIsDeal f fd) (T : TxD mg) (A_are_names : At K mg "are_names" fN) (G_are_names : FnOk P w K mg base CX0 2 fN fdN ["names"] (spNames K)) (b_are_names : Binds K fdN ["names"] []) : FnOk P w K mg base CX0 3 f fd ["deal"] (spIsDeal K) := by
  refine F.ok scIsDeal (fun vs H Q E h => ?_) (fun cdv A outer s H vs Q E hr h => ?_)
  · obtain ⟨v, b, rfl, _⟩ := h
    rfl
  · obtain ⟨v, b, rfl, is, k⟩ := h
    have hr_are_names : Room 2 _ := hr
    obtain ⟨t60, g60⟩ := T.g_MOST_LANES
    refine ⟨_, (pss_cons (ps_if (PW.pt (pw_or (pt_not (pt_val (pe_callB call_isi (by rfl) T.isinstance (by decide +kernel) (pa_cons (pv 0) (pa_cons (pe_bltn (v := .ty "dict") (by rfl) T.dict (by decide +kernel) rfl) pa_nil))))) (pw_or1 (pt_cmpR op_gt (pe_callB call_lenD (by rfl) T.len PySem.boot_len (pa_cons (pv 0) pa_nil)) (pe_glob (v := .int 60) (by rfl) g60 ⟨_, rfl⟩) (nomark _)))))
        (pss_one (ps_ret pe_bl))
        pss_nil)
      (pss_one (ps_ret (pe_and (pe_call G_are_names hr_are_names (by rfl) A_are_names.g A_are_names.k b_are_names .nil pass0 (pa_cons (pe_callTy (call_listD (by rfl)) (by rfl) T.list (by decide +kernel) (pa_cons (pv 0) pa_nil)) pa_nil)) (pe_one (pe_call G_are_names hr_are_names (by rfl) A_are_names.g A_are_names.k b_are_names .nil pass0 (pa_cons (DV.pe_listVals (by rfl) (by rfl) T.list (by decide +kernel) (pv 0)) pa_nil))))))), ?_⟩
    cases is with
    | @no v ty h n => exact ⟨_, rfl, v, .ty "dict", _, _, _, rfl, .ty "dict", h.tyX, h.ne n (by decide), _, rfl, iteT (iteT (k _ (Same.refl H)))⟩
    | @dict a kvs h hk hv =>
      refine ⟨_, rfl, .ref a, .ty "dict", _, _, _, rfl, .ty "dict", .base (.dK h), kit_dict, _, rfl, iteF ⟨_, rfl, a, _, rfl, h, ?_⟩⟩
      refine ⟨_, _, rfl, rfl, _, rfl, ?_⟩
      by_cases c1 : kvs.length ≤ 60
      · rw [decide_eq_false (show ¬ (60 : Int) < kvs.length by omega)]
        rw [decide_eq_true c1, Bool.true_and] at k
        refine iteF ⟨_, rfl, a, kvs, rfl, .inl h, fun p hp => ⟨p, _, rfl, upd_same, by rw [List.length_map]; exact c1, fun x hx => ?_, fun H1 e1 => ⟨_, rfl, ?_⟩⟩⟩
        · obtain ⟨kv, hm, rfl⟩ := List.mem_map.mp hx
          exact (hk kv hm).same (made' hp)
        · have e0 : Same H H1 := (made' hp).trans e1
          rw [List.all_map]
          cases c2 : kvs.all (wordB ∘ fun kv => kV kv.1) with
          | false =>
            rw [show (kvs.all fun kv => wordB (kV kv.1)) = false from c2] at k
            exact iteF (k _ e0)
          | true =>
            rw [show (kvs.all fun kv => wordB (kV kv.1)) = true from c2, Bool.true_and] at k
            refine iteT ⟨_, rfl, a, kvs, rfl, e0 _ _ h, fun q hq => ⟨q, _, rfl, upd_same, by rw [List.length_map]; exact c1, fun x hx => ?_, fun H2 e2 => ?_⟩⟩
            · obtain ⟨kv, hm, rfl⟩ := List.mem_map.mp hx
              exact (hv kv hm).same (e0.trans (made' hq))
            · rw [List.all_map]
              exact k _ (e0.trans ((made' hq).trans e2))
      · rw [decide_eq_true (show (60 : Int) < kvs.length by omega)]
        rw [decide_eq_false c1, Bool.false_and] at k
        exact iteT (k _ (Same.refl H))
abbrev sTold : Stmt := top 19
theorem scTold : FnScope ["told"] ["told"] (defScope sTold) := ⟨rfl, rfl, rfl, by decide +kernel, rfl, by decide +kernel, by decide +kernel⟩
theorem ok_told {f fN : Addr} {fd fdN : FuncData} (F : Fun K "are_readers_told" "are_readers_told" sTold f fd) (T : TxD mg) (A_are_names : At K mg "are_names" fN) (G_are_names : FnOk P w K mg base CX0 2 fN fdN ["names"] (spNames K)) (b_are_names : Binds K fdN ["names"] []) : FnOk P w K mg base CX0 3 f fd ["told"] (spTold K) := by
  refine F.ok scTold (fun vs H Q E h => ?_) (fun cdv A outer s H vs Q E hr h => ?_)
  · obtain ⟨v, b, rfl, _⟩ := h
    rfl
  · obtain ⟨v, b, rfl, is, k⟩ := h
    have hr_are_names : Room 2 _ := hr
    obtain ⟨t12, g12⟩ := T.g_MOST_READERS
    refine ⟨_, (pss_one (ps_ret (pe_and (pe_callB call_isi (by rfl) T.isinstance (by decide +kernel) (pa_cons (pv 0) (pa_cons (pe_bltn (v := .ty "dict") (by rfl) T.dict (by decide +kernel) rfl) pa_nil))) (pe_and (pe_chain op_le op_le pe_int (pe_callB call_lenD (by rfl) T.len PySem.boot_len (pa_cons (pv 0) pa_nil)) (pe_glob (v := .int 12) (by rfl) g12 ⟨_, rfl⟩)) (pe_one (pe_call G_are_names hr_are_names (by rfl) A_are_names.g A_are_names.k b_are_names .nil pass0 (pa_cons (pe_callTy (call_listD (by rfl)) (by rfl) T.list (by decide +kernel) (pa_cons (pv 0) pa_nil)) pa_nil))))))), ?_⟩
    cases is with
    | @no v ty h n => exact ⟨_, rfl, v, .ty "dict", _, _, _, rfl, .ty "dict", h.tyX, h.ne n (by decide), _, rfl, iteF (k _ (Same.refl H))⟩
    | @dict a kvs h hk =>
      refine ⟨_, rfl, .ref a, .ty "dict", _, _, _, rfl, .ty "dict", .base (.dK h), kit_dict, _, rfl, iteT ⟨_, rfl, a, _, rfl, h, _, _, rfl, rfl, _, rfl, ?_⟩⟩
      by_cases c1 : 1 ≤ kvs.length
      · rw [decide_eq_true (show (1 : Int) ≤ kvs.length by omega)]
        rw [decide_eq_true c1, Bool.true_and] at k
        refine iteT ⟨_, _, rfl, rfl, _, rfl, ?_⟩
        by_cases c2 : kvs.length ≤ 12
        · rw [decide_eq_true (show (kvs.length : Int) ≤ 12 by omega)]
          rw [decide_eq_true c2, Bool.true_and] at k
          refine iteT ⟨_, rfl, a, kvs, rfl, .inl h, fun p hp => ⟨p, _, rfl, upd_same, by rw [List.length_map]; omega, fun x hx => ?_, fun H1 e1 => ?_⟩⟩
          · obtain ⟨kv, hm, rfl⟩ := List.mem_map.mp hx
            exact (hk kv hm).same (made' hp)
          · rw [List.all_map]
            exact k _ ((made' hp).trans e1)
        · rw [decide_eq_false (show ¬ (kvs.length : Int) ≤ 12 by omega)]
          rw [decide_eq_false c2, Bool.false_and] at k
          exact iteF (k _ (Same.refl H))
      · rw [decide_eq_false (show ¬ (1 : Int) ≤ kvs.length by omega)]
        rw [decide_eq_false c1, Bool.false_and] at k
        exact iteF ⟨_, rfl, iteF (k _ (Same.refl H))⟩
abbrev sBounds : Stmt := top 20
abbrev nBounds : List Str := ["bounds", "pair"]
theorem scBounds : FnScope nBounds ["bounds"] (defScope sBounds) := ⟨rfl, rfl, rfl, by decide +kernel, rfl, by decide +kernel, by decide +kernel⟩
theorem ok_areBounds {f fN fR : Addr} {fd fdN fdR : FuncData} (F : Fun K "are_bounds" "are_bounds" sBounds f fd) (T : TxD mg) (A_are_readers_told : At K mg "are_readers_told" fN) (G_are_readers_told : FnOk P w K mg base CX0 3 fN fdN ["told"] (spTold K)) (b_are_readers_told : Binds K fdN ["told"] [])
    (A_is_range : At K mg "is_range" fR) (G_is_range : FnOk P w K mg base CX0 3 fR fdR ["pair"] (spRange K)) (b_is_range : Binds K fdR ["pair"] []) : FnOk P w K mg base CX0 4 f fd ["bounds"] (spAreBounds K) := by
  refine F.ok scBounds (fun vs H Q E h => ?_) (fun cdv A outer s H vs Q E hr h => ?_)
  · obtain ⟨v, b, rfl, _⟩ := h
    rfl
  · obtain ⟨v, b, rfl, is, k⟩ := h
    have nd := scBounds.nd
    have hr_are_readers_told : Room 3 _ := hr
    have hr_is_range : Room 3 _ := hr
    have hu1 : _ < cLine := hr.in1.units0
    refine ⟨_, (pss_one (ps_ret (pe_and (pe_call G_are_readers_told hr_are_readers_told (by rfl) A_are_readers_told.g A_are_readers_told.k b_are_readers_told .nil pass0 (pa_cons (pv 0) pa_nil)) (pe_one (pe_callB (cr_all rfl) (by rfl) T.all (by decide +kernel) (pa_cons (pe_lock (pe_lc (own := [("pair", 1)]) (by rfl) nd (pi_values (pv 0)) (blkOk_by (N := nBounds) (sc := defScope sBounds) (by decide +kernel)) (fun _ _ _ _ _ => (pg_name (i := 1) nd rfl (Or.inl rfl))) (fun _ _ _ _ _ => pts_nil) (fun _ _ _ _ _ => (pe_call G_is_range hr_is_range (by rfl) A_is_range.g A_is_range.k b_is_range .nil pass0 (pa_cons (pv 1) pa_nil))))) pa_nil)))))), ?_⟩
    cases is with
    | @no v ty h n => exact ⟨_, rfl, v, false, rfl, .no h n, fun H1 e1 => ⟨_, rfl, iteF (k _ e1)⟩⟩
    | @dict a kvs h hk g hr =>
      refine ⟨_, rfl, .ref a, _, rfl, .dict h hk, fun H1 e1 => ⟨_, rfl, ?_⟩⟩
      cases c1 : decide (1 ≤ kvs.length) && (decide (kvs.length ≤ 12) && kvs.all fun kv => wordB (kV kv.1)) with
      | false => rw [c1, Bool.false_and] at k; exact iteF (k _ e1)
      | true =>
        rw [c1, Bool.true_and] at k
        have few : kvs.length ≤ 12 := of_decide_eq_true (Bool.and_eq_true _ _ ▸ (Bool.and_eq_true _ _ ▸ c1).2).1
        refine iteT ⟨a, _, e1 _ _ h, trivial, fun od => ⟨_, rfl, a, od, _, rfl, upd_same, fun D nD => ?_⟩⟩
        have naD : a ≠ D := fun q => by rw [← q, upd_same] at nD; cases nD
        have nD1 : H1 D = none := by rw [upd_ne naD.symm] at nD; exact nD
        refine lc_it walk_values (fun i H' => H' a = some (.frz od (.dK kvs)) ∧ H' D = some (.lst (((kvs.take i).map g).map V.bl)) ∧ ∀ b o, H1 b = some o → b ≠ a → H' b = some o) ⟨by rw [upd_ne naD, upd_same], by rw [upd_same, List.take_zero]; rfl, fun b o z n => by rw [upd_ne (ne_of_none z nD1), upd_ne n]; exact z⟩ (fun i H' _ z => z.1) ?_ ?_
        · rintro i x H3 H4 hi ⟨z1, z2, z3⟩ ⟨rfl, k', hx⟩
          have mem := List.mem_of_getElem? hx
          refine ⟨rfl, _, rfl, x, g (k', x), rfl, (hr _ mem).off h fun c o z n => z3 _ _ (e1 _ _ z) n, _, z2, by rw [List.length_map, List.length_map, List.length_take, sizeLine_eq]; omega, by rw [upd_ne naD]; exact z1, ?_, fun b o z n => by rw [upd_ne (ne_of_none z nD1)]; exact z3 b o z n⟩
          rw [upd_same, take_snoc hx, List.map_append, List.map_append]; rfl
        · rintro H3 ⟨z1, z2, z3⟩
          rw [List.take_length] at z2
          refine ⟨z1, D, _, rfl, SqL.of (by rw [upd_ne naD.symm]; exact z2), ?_⟩
          rw [List.all_map]
          exact k _ (e1.trans (same_back (e1 _ _ h) z3))
end
end KD
end
section
/-! An own error whose __init__ calls its base's by super() with an f-string and keeps its place. -/
namespace PySem
namespace TkX
open PySem.W PySem.Calls PyProof.Rows PySem.HandSPX
/-! ### the text of __init__ -/
def args (p1 p2 : Pos) : Arguments := { posonlyargs := [], args := [{ arg := "self", annotation := none, pos := p1 }, { arg := "tick", annotation := none, pos := p2 }], vararg := none, kwonlyargs := [], kw_defaults := [], kwarg := none, defaults := [] }
structure Ps where
  a : Pos
  b : Pos
  c : Pos
  d : Pos
  e : Pos
  f : Pos
  g : Pos
  h : Pos
  i : Pos
  j : Pos
  k : Pos
  l : Pos
  m : Pos
def say (msg : Str) (p : Ps) : Expr := .JoinedStr [.Constant (.str msg) 0 p.a, .FormattedValue (.Name "tick" p.b) (-1) none p.c] p.d
def call (msg : Str) (p : Ps) : Expr := .Call (.Attribute (.Call (.Name "super" p.e) [] [] p.f) "__init__" p.g) [say msg p] [] p.h
def body (msg : Str) (p : Ps) : List Stmt := [.Expr (call msg p) p.i, .Assign [.Attribute (.Name "self" p.j) "tick" p.k] (.Name "tick" p.l) p.m]
/-- how the call is read -/
def Reads (msg : Str) (p : Ps) : Prop := ∀ env : Env, ∃ pl : Sem Bool, eval (call msg p) env = (do
  let ov ← attributeBase (.Call (.Name "super" p.e) [] [] p.f) "__init__" env (eval (.Call (.Name "super" p.e) [] [] p.f) env)
  standAt p.g.atName
  let (f, first) ← holding [ov] (getMethod ov "__init__" pl)
  callWith p.h f first (backTo p.h (starEach [say msg p] env)) [])
def scope : Scope := { kind := .function, names := [(PySem.Str.ofString "self", .local), (PySem.Str.ofString "tick", .local), (PySem.Str.ofString "__class__", .free), (PySem.Str.ofString "super", .globalImplicit)], isGenerator := false, isCoroutine := false, more := [] }
theorem kSuper : List.lookup ("super" : Str) scope.names = some NameKind.globalImplicit := by decide +kernel
theorem kClass : List.lookup ("__class__" : Str) scope.names = some NameKind.free := by decide +kernel
theorem kSelf : List.lookup ("self" : Str) scope.names = some NameKind.local := by decide +kernel
theorem kPlace : List.lookup ("tick" : Str) scope.names = some NameKind.local := by decide +kernel
/-- what the written part says of the class named nmC, at C, and of its __init__, at fI -/
structure Txt (P : Program) (K : Frag) (mg : Str → Option Value) (nmC : Str) (C fI : Addr) : Prop where
  gC : mg nmC = some (.ref C)
  cls : ∃ nm q N bs bm sn sub ab col dd k0 k1 k2 k3 k5, K.lookup C = some (excClassObj nm q C N bs bm true sn sub ab col dd k0 k1 k2 k3 k5 "ValueError.__new__") ∧ refsVE bm = true
  sa : findIn K (.ref C) "__setattr__" = some (some (.builtin "object.__setattr__"))
  ga : findIn K (.ref C) "__getattribute__" = some (some (.builtin "BaseException.__getattribute__"))
  gg : findIn K (.ref C) "__getattr__" = some none
  noN : findIn K (.ref C) "tick" = some none
  iC : findIn K (.ref C) "__init__" = some (some (.ref fI))
  tC : typeIn K (.ref fI) = some (.type "function")
  kC : keepIn K (.ref C) = true
  exC : subIn K (.ref C) (.type "BaseException") = some true
  veC : subIn K (.ref C) (.type "ValueError") = some true
  tyC : typeIn K (.ref C) = some (.type "type")
  hdC : hasDictIn K C = true
  te : exmOne K (.ref C) (.ref C) = some true
  sup : ks_superIn K C C "__init__" = some (some (.builtin "ValueError.__init__"))
  opq : nsIn K cStatics "thirdparty.any" = some none
  exI : excInitIn K C veTail "ValueError.__new__" = true
  self : mroIn K C (.ref C) = some true
  sups : mg "super" = none
  top : (P.main.scope.names.lookup ("super" : Str)).isSome = false
  fn : ∃ (oc : Value) (od : Option Addr) (doc pm : Value) (an : Option Addr) (cda cc : Addr) (ct : Value) (osl : Array (Option Value)) (p1 p2 : Pos) (qual msg : Str) (ps : Ps) (ccl : Value) (cdd : Option Addr) (vs : Array Value) (ccs : Array (Option Value)) (file : Str) (tf : Tok) (cl : Value) (cld : Option Addr) (csl : Array (Option Value)),
    K.lookup fI = some ⟨oc, od, .func (ksFn "__init__" qual (args p1 p2) (body msg ps) scope .none .none doc pm an (.ref cda) ct cc), osl⟩ ∧ codeIn K (.ref cda) qual = true ∧ msg.length ≤ 100 ∧ Reads msg ps ∧
    K.lookup cda = some ⟨ccl, cdd, .fields vs, ccs⟩ ∧ vs[2]? = some (.str file tf) ∧ ((P.main.file : Str) == file) = true ∧ K.lookup cc = some ⟨cl, cld, .cell (some (.ref C)), csl⟩
/-- what stands as a place -/
def PlaceV (v : Value) : Prop := v = .none ∨ ∃ i t, v = .int i t ∧ i.natAbs.log2 < 1920
structure Made (h h' : Heap) (e C d : Addr) (v : Value) : Prop where
  keep : ∀ b o, h.get? b = some o → h'.get? b = some o
  new : h.objs.size ≤ e
  obj : ∃ oe vs, h'.get? e = some oe ∧ oe.cls = .ref C ∧ oe.dict = some d ∧ oe.data = .fields vs ∧ vs[1]? = some .none
  dbig : h.objs.size ≤ d
  dne : d ≠ e
  ns : h'.Ns1 d (fun y => if y = "tick" then some v else none)
/-- what __init__ leaves of a fresh exception at x -/
structure Left (h h' : Heap) (x C dx t1 : Addr) (v : Value) : Prop where
  keep : ∀ b o, b ≠ x → h.get? b = some o → h'.get? b = some o
  obj : h'.get? x = some { cls := .ref C, dict := some dx, data := .fields #[.ref t1, .none, .none, .none, .bool false, .none] }
  dbig : h.objs.size ≤ dx
  dne : dx ≠ x
  ns : h'.Ns1 dx (fun y => if y = "tick" then some v else none)
theorem ldN {M : Model} {A : Around} {E : Value → Shared → Prop} {s : Shared} {env : Env} {m : Str → Option Value} {x : Str} {pos : Pos} {v : Value} {Q : Value → Shared → Prop} (hn : s.heap.Ns env.locals m) (hv : m x = some v) (h : Q v s)
    (hk : env.scope.kind = .function := by rfl) (hl : env.kindOf x = some .local := by rfl) (hd : (x == ("__debug__" : Str)) = false := by decide) :
    wpAny M A (eval (.Name x pos) env) Q E s := wpAny_Name (wpAny_loadName_local hk hl hn hv h) hd
section
variable {prog : Program} {w : World} {A : Around} {E : Value → Shared → Prop} {R : Result → Shared → Prop} {s : Shared} {K : Frag} {mg : Str → Option Value} {C fI : Addr} {nmC : Str}
theorem say_runs {env : Env} {L : Addr} {m : Str → Option Value} {msg : Str} {p : Ps} {v : Value} {Q : Value → Shared → Prop} (hL : env.locals = L) (hn : s.heap.Ns L m) (hv : m "tick" = some v) (pv : PlaceV v) (hz : msg.length ≤ 100)
    (hk : env.scope.kind = .function) (hl : env.kindOf "tick" = some .local)
    (h : ∀ x t, Q x { s with toks := t }) : wpAny (model prog w) A (eval (say msg p) env) Q E s := by
  subst hL
  unfold say
  refine wpAny_JoinedStr ?_
  have e0 : evalEach [Expr.Constant (.str msg) 0 p.a, Expr.FormattedValue (.Name "tick" p.b) (-1) none p.c] env = [eval (Expr.Constant (.str msg) 0 p.a) env, eval (Expr.FormattedValue (.Name "tick" p.b) (-1) none p.c) env] := by first | rfl | simp [evalEach]
  rw [e0]
  have le0 : (Str.empty ++ msg).length ≤ 100 := by
    rw [Str.length_append]
    show 0 + msg.length ≤ 100
    omega
  refine wpAny_Constant_str ⟨msg, _, rfl, Nat.le_trans le0 (by rw [sizeLine_eq]; omega), ?_⟩
  refine wpAny_FormattedValue_plain (ldN hn hv ?_ hk hl (by decide))
  have fin : ∀ (y : Str) (t t' : Nat), y.length ≤ 2000 → ∃ y' t2, (Value.str y t) = .str y' t2 ∧ ((Str.empty ++ msg) ++ y').length ≤ sizeLine ∧
      Joins (model prog w) A E [] ((Str.empty ++ msg) ++ y') (fun out s₁ => out.length ≤ sizeLine ∧ Q (.str out s₁.toks) { s₁ with toks := s₁.toks + 1 }) { s with toks := t' } := fun y t t' hy => by
    have lz : ((Str.empty ++ msg) ++ y).length ≤ sizeLine := by
      rw [Str.length_append, sizeLine_eq]
      omega
    exact ⟨y, t, rfl, lz, lz, h _ _⟩
  rcases pv with rfl | ⟨i, t, rfl, hi⟩
  · exact wpAny_formatField_none (fin "None" _ _ (by decide))
  · exact wpAny_formatField_int hi (fin _ _ _ (Nat.le_trans (int_text_len_1921 hi) (by omega)))
theorem init_runs (T : Txt prog K mg nmC C fI) {x t0 : Addr} {v : Value} (pv : PlaceV v) (M : L2.Mod K mg s.heap) (hx : s.heap.get? x = some (excO C t0)) (hnx : K.lookup x = none) (hroom : A.depth < recursionLimit)
    (hq : ∀ h' tk dx t1, Left s.heap h' x C dx t1 v → R (.ok (.ret .none)) { s with heap := h', toks := tk }) :
    codeAny (model prog w) A (.call (.ref fI) ⟨[.ref x, v], []⟩) R s := by
  obtain ⟨oc, od, doc, pm, an, cda, cc, ct, osl, p1, p2, qual, msg, ps, ccl, cdd, vs, ccs, file, tf, cl, cld, csl, ho, hcd, hmsg, hrd, hcda, hvs, hfile, hcc⟩ := T.fn
  have X := M.kin
  refine ks_codeAny_call_defAt (fd := ksFn "__init__" qual (args p1 p2) (body msg ps) scope .none .none doc pm an (.ref cda) ct cc) (body := body msg ps) (binds := [("self", .ref x), ("tick", v)]) hroom (X _ _ ho) rfl M.nolimit (codeRec_of X hcd) rfl
    (BindsTo.of_eq (by first | rfl | with_unfolding_all rfl)) (show ∀ y ∈ scope.names, y.2 ≠ .cell by decide +kernel)
    (fun y hy => by
      rcases List.mem_cons.mp hy with rfl | hy
      · exact kSelf
      · rcases List.mem_cons.mp hy with rfl | hy
        · exact kPlace
        · cases hy) (fun h₁ hns₁ k₁ => ?_) rfl rfl rfl
  obtain ⟨hp, g, d, tk, os⟩ := s
  have hxL : hp.objs.size ≠ x := Nat.ne_of_gt (Heap.lt_size hx)
  have lS : List.lookup ("self" : Str) ([("self", .ref x), ("tick", v)] : List (Str × Value)).reverse = some (.ref x) := by first | rfl | with_unfolding_all rfl | kernel_rfl
  have lP : List.lookup ("tick" : Str) ([("self", .ref x), ("tick", v)] : List (Str × Value)).reverse = some v := by first | rfl | with_unfolding_all rfl | kernel_rfl
  have X₁ : K.In h₁ := X.keeps k₁
  have hx₁ := k₁ _ _ hx
  have G₁ := M.glob.keeps k₁
  obtain ⟨mb, B0, hB⟩ := M.blt
  have B₁ := B0.keeps k₁
  obtain ⟨nm, q, N, bs, bm, sn, sub, ab, col, dd, k0, k1, k2, k3, k5, hC, hbm⟩ := T.cls
  have hcl : clsIn K C = some { name := nm, bases := bs, mro := .ref C :: bm, ns := N, qualname := q, hasDict := true, slotNames := sn, subclasses := sub, abstract := ab, collection := col, hasDel := false } := by unfold clsIn; rw [hC] <;> rfl
  show PySem.wpAt _ _ _ (execs (_ :: _) _) _ _ _
  obtain ⟨pl, hpl⟩ := hrd (ksEnv qual scope hp.objs.size fI (.ref cda) cc)
  refine ks_wpAt_execs_cons (ks_wpAt_Expr_any (ks_wpAt_MethodCall (pl := pl) ?_ hpl))
  refine ks_wpAt_super_base (env := ksEnv qual scope hp.objs.size fI (.ref cda) cc) kSuper kClass (by decide) rfl (X₁ _ _ ho) rfl rfl rfl (X₁ _ _ hcda) rfl hvs hfile T.top ?_
  have hC₁ := X₁ _ _ hC
  refine ks_loadName_global rfl kSuper (loadGlobal_builtin (env := ksEnv qual scope hp.objs.size fI (.ref cda) cc) G₁ T.sups B₁ ((hB _ (by decide +kernel)).trans PyProof.Rows.Boot.«super») ⟨rfl, ?_⟩)
  refine wpAny_loadName_free (c := cc) rfl kClass rfl ⟨_, X₁ _ _ hcc, rfl⟩ ?_
  refine wpAny_loadName_local rfl kSelf hns₁ lS ?_
  refine ks_wpAny_isType_cls hC₁ rfl ⟨rfl, ?_⟩
  refine ks_wpAny_call_super hC₁ rfl hx₁ rfl (fun c e => by cases e) (looks_mroIn X₁ T.self) (fun h₂ e₂ k₂ => ?_)
  have X0 : K.In (hideAll hp [x]) := fun a o e => hideAll_get [x] (X a o e) fun z => by
    rw [List.mem_singleton.mp z] at e
    rw [show K.lookup x = some o from e] at hnx
    cases hnx
  have F1 : Fr (hideAll hp [x]) hp.objs.size h₁ _ := ⟨hns₁, fun b o e => k₁ b o (of_hideAll _ e), Nat.le_of_eq (hideAll_size _ _)⟩
  have N1 : News (hideAll hp [x]) hp.objs.size h₁ [(x, excO C t0)] := fun p hm => by
    rw [List.mem_singleton.mp hm]
    exact ⟨hx₁, Ne.symm hxL, hideAll_none _ (List.mem_singleton.mpr rfl)⟩
  obtain ⟨F2, N2, lt2⟩ := ks_newsPush (s := ⟨h₁, g, d, tk + 2, os⟩) F1 N1 rfl e₂ k₂
  refine kxs_method kxs_ValueError F2 X0 N2 (List.mem_cons_self ..) (odx := none) ⟨k₂ _ _ hx₁, rfl, rfl, trivial⟩ T.opq T.sup T.veC (by decide +kernel) (fun u h₃ F3 N3 lt3 => ?_)
  refine kxs_callWith1 N3 (List.mem_cons_self ..) ?_
  refine args_cons (say_runs (L := hp.objs.size) rfl F3.ns lP pv hmsg rfl kPlace fun y t => args_nil ?_)
  refine ⟨kxs_at N3 (List.mem_cons_self ..), ?_⟩
  have ltx : x < h₁.objs.size := lt2 (x, excO C t0) (List.mem_singleton.mpr rfl)
  have ltu : x < u := lt3 (x, excO C t0) (.tail _ (List.mem_singleton.mpr rfl))
  have U : UpdF x (excObj C t0 none .none) [(u, kxs_mw "ValueError.__init__" x), (h₁.objs.size, ks_superObj C x C), (x, excO C t0)] (fun o => [(u, kxs_mw "ValueError.__init__" x), (h₁.objs.size, ks_superObj C x C), (x, o)]) :=
    .tail (Nat.ne_of_gt ltu) (.tail (Nat.ne_of_gt ltx) (.head fun p hp => nomatch hp))
  refine kxs_call F3 X0 N3 F.excBase_ValueError T.exI (List.mem_cons_self ..) U (show 1 ≤ sizeLine by rw [sizeLine_eq]; omega) (fun t1 h₄ F4 N4 lt4 => ?_)
  have hx₄ : h₄.get? x = some (excObj C t1 none .none) := (N4 (x, excObj C t1 none .none) (.tail _ (.tail _ (.tail _ (List.mem_singleton.mpr rfl))))).1
  have X₄ : K.In h₄ := X0.keeps F4.keep
  show PySem.wpAt _ _ _ (execs (_ :: _) _) _ _ _
  refine ks_wpAt_execs_cons (ks_wpAt_Assign_Attr (wpAt_of_wpAny ?_))
  have n4 : h₄.Ns (ksEnv qual scope hp.objs.size fI (.ref cda) cc).locals (fun y => List.lookup y ([("self", .ref x), ("tick", v)] : List (Str × Value)).reverse) := F4.ns
  show wpAny _ _ (eval (.Name "tick" ps.l) (ksEnv qual scope hp.objs.size fI (.ref cda) cc)) _ _ ⟨h₄, g, d, _, os⟩
  refine ldN n4 lP ?_ rfl kPlace (by decide)
  show wpAny _ _ (eval (.Name "self" ps.j) (ksEnv qual scope hp.objs.size fI (.ref cda) cc)) _ _ ⟨h₄, g, d, _, os⟩
  refine ldN n4 lS ?_ rfl kSelf (by decide)
  refine set_plain X₄ (ox := excObj C t1 none .none) (od := none) ⟨hx₄, rfl, rfl, trivial⟩ T.sa ?_
  refine exc_osa X₄ hx₄ hcl (show refsVE (.ref C :: bm) = true from hbm) rfl T.noN (fun h₅ tk₅ dx k₅ dn dne hx₅ hn₅ => ?_)
  show PySem.wpAt _ _ _ (execs [] _) _ _ _
  refine wpAt_of_wpAny (wpAny_execs_nil (hq h₅ tk₅ dx t1 ⟨fun b o hb e => ?_, hx₅, ?_, dne, hn₅⟩))
  · exact k₅ b o hb (F4.keep b o (hideAll_get [x] e fun z => hb (List.mem_singleton.mp z)))
  · exact Nat.le_of_lt (Nat.lt_of_lt_of_le F4.ns.lt dn)
theorem made_runs (T : Txt prog K mg nmC C fI) {v : Value} (pv : PlaceV v) (M : L2.Mod K mg s.heap) (hroom : A.depth + 1 < recursionLimit)
    (hq : ∀ h' tk e d, Made s.heap h' e C d v → R (.ok (.ret (.ref e))) { s with heap := h', toks := tk }) :
    codeAny (model prog w) A (.call (.ref C) ⟨[v], []⟩) R s := by
  obtain ⟨nm, q, N, bs, bm, sn, sub, ab, col, dd, k0, k1, k2, k3, k5, hC, hbm⟩ := T.cls
  obtain ⟨hp, g, dr, tk, os⟩ := s
  have X := M.kin
  have k : ∀ b o, hp.get? b = some o → ((hp.push (kdv_tup [v])).push (excO C hp.objs.size)).get? b = some o := fun b o e => Heap.get?_push_of_some _ (Heap.get?_push_of_some _ e)
  have hget : ((hp.push (kdv_tup [v])).push (excO C hp.objs.size)).get? (hp.objs.size + 1) = some (excO C hp.objs.size) := by heap_get
  have hnx : K.lookup (hp.objs.size + 1) = none := by
    cases e : K.lookup (hp.objs.size + 1) with
    | none => rfl
    | some o => exact absurd (Nat.lt_of_succ_lt (Heap.lt_size (X _ _ e))) (Nat.lt_irrefl _)
  have M2 : L2.Mod K mg ((hp.push (kdv_tup [v])).push (excO C hp.objs.size)) := ⟨X.keeps k, M.glob.keeps k, M.blt.imp fun mb z => ⟨z.1.keeps k, z.2⟩, M.nolimit.keeps k⟩
  refine call_own F.excBase_ValueError (fun Y => refsVE_contains Y bm hbm) (X _ _ hC) (looks_findIn X T.iC) (fun self => bind_fn X self T.tC) (show 1 ≤ sizeLine by rw [sizeLine_eq]; omega) ?_
  refine init_runs (s := ⟨(hp.push (kdv_tup [v])).push (excO C hp.objs.size), g, dr, tk, os⟩) T pv M2 hget hnx hroom fun h' tk' dx t1 L => ?_
  refine ⟨rfl, hq h' tk' (hp.objs.size + 1) dx ⟨fun b o e => L.keep b o (Nat.ne_of_lt (Nat.lt_succ_of_lt (Heap.lt_size e))) (k b o e), Nat.le_succ _, ⟨_, _, L.obj, rfl, rfl, rfl, rfl⟩, Nat.le_trans ?_ L.dbig, L.dne, L.ns⟩⟩
  show hp.objs.size ≤ ((hp.push (kdv_tup [v])).push (excO C hp.objs.size)).objs.size
  rw [Heap.size_push, Heap.size_push]
  omega
end
end TkX
end PySem
end
section
/-! The hand layer's words for errors that keep a place. -/
namespace L2
open PySem PySem.Spec PyProof.Rows
/-- the field that the error keeps, and no other -/
theorem tick_fields {v : V} {u : Value} (r : RelV v u) (f : Str) : RelO ([(("tick" : Str), v)].lookup f) (if f = "tick" then some u else none) := by
  rcases Classical.em (f = "tick") with rfl | h
  · rw [if_pos rfl]
    have z : [(("tick" : Str), v)].lookup ("tick" : Str) = some v := by simp [List.lookup]
    rw [z]; exact r
  · rw [if_neg h]
    have z0 : (f == ("tick" : Str)) = false := by simpa using h
    have z : [(("tick" : Str), v)].lookup f = none := by simp [List.lookup, z0]
    rw [z]; exact trivial
/-- what may be a place -/
def TickW (v : V) : Prop := v = .non ∨ ∃ i : Int, v = .int i ∧ i.natAbs.log2 < 1920
theorem tickW_val {v : V} {u : Value} (h : TickW v) (r : RelV v u) : PySem.TkX.PlaceV u := by
  rcases h with rfl | ⟨i, rfl, hi⟩
  · obtain rfl : u = .none := r
    exact .inl rfl
  · obtain ⟨t, rfl⟩ := r
    exact .inr ⟨i, t, rfl, hi⟩
section
variable {X : Cx} {C fI : Addr} {nmC : Str}
/-- C(e) -/
def tMkTk (C : Addr) (ta : TA) : St → Hp → XK → Prop := fun σ H Q => ta σ H fun vs H1 => ∃ v, vs = [v] ∧ TickW v ∧ ∀ d, H1 d = none → Q (.ref C) (some d) (upd H1 d (.xd [(("tick" : Str), v)]))
theorem pmk_tk {a : Expr} {ta : TA} {p pos : Pos} {k : Nat} (T : PySem.TkX.Txt X.prog X.K X.mg nmC C fI) (hr : Room (k + 1) X.A) (ha : PA X [a] ta) (hg : Gl X nmC) (hdb : (nmC == ("__debug__" : Str)) = false := by decide)
    (he : starEach (a :: []) X.env = (false, eval a X.env) :: starEach [] X.env := by rfl) (hpl : (backTo pos (starEach [] X.env)).any (·.1) = false := by rfl) :
    PMk X (.Call (.Name nmC p) [a] [] pos) (tMkTk C ta) := fun pins s σ H Q I h => by
  refine wpAny_Call_Name_kw (ld_glob I hg T.gC ?_ hdb)
  refine PySem.W.callWith_K (h₀ := X.base) I.ok.mod.kin T.kC (thn (ha.run pos pins s σ H _ I h) fun us s1 hh => ?_) he hpl
  obtain ⟨vs, H1, I1, r1, v, ev, hv, q1⟩ := hh
  subst ev
  refine ⟨I1.kIn, ?_⟩
  cases r1 with
  | @cons _ u0 _ us' rv rn =>
    cases rn
    have M : Mod X.K X.mg s1.heap := ⟨I1.kIn, I1.ok.mod.glob.keeps I1.bk, I1.ok.mod.blt.imp fun mb z => ⟨z.1.keeps I1.bk, z.2⟩, I1.nolimit⟩
    show wpAny _ _ (call (.ref C) [u0]) _ _ _
    obtain ⟨hp, g, dr, tk, os⟩ := s1
    refine wpAny_call (PySem.TkX.made_runs T (tickW_val hv rv) M (by have := hr.dp; omega) fun h' tk' e d Z => ?_)
    show MkP X pins σ Q (.ref e) ⟨h', g, dr, tk', os⟩
    obtain ⟨oe, fv, hoe, hc, hd, hdat, hnil⟩ := Z.obj
    obtain ⟨G, same, gone⟩ := restrict h' fun b => decide (b ≠ e)
    have gs : ∀ b, b ≠ e → G.get? b = h'.get? b := fun b hb => same b (decide_eq_true hb)
    have ge : G.get? e = none := gone e (decide_eq_false fun z => z rfl)
    have keep : ∀ b o, hp.get? b = some o → G.get? b = some o := fun b o q => by
      rw [gs b (Nat.ne_of_lt (Nat.lt_of_lt_of_le (Heap.lt_size q) Z.new))]
      exact Z.keep b o q
    have dict : ObjOk X.prog X.w (upd H1 d (.xd [(("tick" : Str), v)])) G d (.xd [(("tick" : Str), v)]) :=
      ⟨_, Z.ns.at (fun o q => (gs d Z.dne).trans q), fun f => tick_fields rv f⟩
    have J : Inv X pins σ (upd H1 d (.xd [(("tick" : Str), v)])) ⟨G, g, dr, tk', os⟩ := I1.laid (t' := tk') keep Z.dbig dict
    have ne : (upd H1 d (.xd [(("tick" : Str), v)])) e = none := by
      rw [upd_ne (Ne.symm Z.dne)]; exact I1.hok.fresh Z.new
    refine ⟨e, oe, fv, ⟨G, g, dr, tk', os⟩, _, .ref C, some d, rfl, J, fun b o q => ?_, ge, hoe, ⟨hc, hd⟩, hdat, hnil, ne, rfl, I1.bare, raises_own T.exC T.tyC, q1 d (I1.hok.fresh Z.dbig)⟩
    have nb : b ≠ e := fun z => by
      rw [z] at q
      rw [show G.get? e = some o from q] at ge
      cases ge
    exact (gs b nb).symm.trans q
end
theorem xfcT_of {P : Program} {K : PySem.W.Frag} {mg : Str → Option Value} {nmC : Str} {C fI : Addr} (T : PySem.TkX.Txt P K mg nmC C fI) : XfC K C := ⟨T.ga, T.gg, T.exC, T.hdC⟩
end L2
end
section
/-! Deals: what is refused. -/
namespace KD
open PySem L2 DM
theorem RangeIs.same {K : PySem.W.Frag} {H H' : Hp} {v : V} {b : Bool} (e : Same H H') (h : RangeIs K H v b) : RangeIs K H' v b := by
  cases h with
  | no h n m => exact .no (h.same e) n m
  | few h n => exact .few (e _ _ h) n
  | two h hx hy => exact .two (e _ _ h) hx hy
theorem DealIs.same {K : PySem.W.Frag} {H H' : Hp} {v : V} {b : Bool} (e : Same H H') (h : DealIs K H v b) : DealIs K H' v b := by
  cases h with
  | no h n => exact .no (h.same e) n
  | dict h hk hv => exact .dict (e _ _ h) (fun kv m => (hk kv m).same e) fun kv m => (hv kv m).same e
theorem BoundsIs.same {K : PySem.W.Frag} {H H' : Hp} {v : V} {b : Bool} (e : Same H H') (h : BoundsIs K H v b) : BoundsIs K H' v b := by
  cases h with
  | no h n => exact .no (h.same e) n
  | dict h hk g hr => exact .dict (e _ _ h) (fun kv m => (hk kv m).same e) g fun kv m => (hr kv m).same e
/-- the class of a deal's moves, and the errors -/
structure Cs where
  (moves bad bnd no noI broker ways : Addr)
structure ETxt (K : PySem.W.Frag) (mg : Str → Option Value) (name : Str) (C CB : Addr) : Prop where
  x : PySem.W.excIn K C [.type "ValueError", .type "Exception", .type "BaseException", .type "object"] "ValueError.__new__" = true
  c : mg name = some (.ref C)
  k : PySem.W.keepIn K (.ref C) = true
  b : PySem.W.subIn K (.ref C) (.type "BaseException") = some true
  t : PySem.W.typeIn K (.ref C) = some (.type "type")
  e : ExcC K C
  self : PySem.W.exmOne K (.ref C) (.ref C) = some true
  ki : PySem.W.kitOne K (.ref C) (.ref CB) = some true
structure CTxt (K : PySem.W.Frag) (mg : Str → Option Value) (C : Addr) (name : Str) : Prop where
  cl : Cls K C
  g : mg name = some (.ref C)
structure TxE (P : Program) (K : PySem.W.Frag) (mg : Str → Option Value) (c : Cs) : Prop where
  e_BadDeal : ETxt K mg "BadDeal" c.bad c.broker
  e_BadBounds : ETxt K mg "BadBounds" c.bnd c.broker
  e_NoDeal : PySem.TkX.Txt P K mg "NoDeal" c.no c.noI
  Moves : CTxt K mg c.moves "Moves"
  n_moves : NoAttr K c.moves "moves"
  n_way : NoAttr K c.moves "way"
  n_readers : NoAttr K c.moves "readers"
  g_WAYS : mg "WAYS" = some (.ref c.ways)
  waysK : ∃ (o : Obj) (its : Array Value) (n : Nat), K.lookup c.ways = some o ∧ o.cls = .type "tuple" ∧ o.data = .seq its n ∧ its.size ≤ sizeLine ∧ Vals [V.str "leaving", .str "coming"] its.toList
  x_bad_no : PySem.W.exmOne K (.ref c.bad) (.ref c.no) = some false
  x_bnd_no : PySem.W.exmOne K (.ref c.bnd) (.ref c.no) = some false
  x_bnd_bad : PySem.W.exmOne K (.ref c.bnd) (.ref c.bad) = some false
  g_Broker : mg "BrokerError" = some (.ref c.broker)
def spCheckD (K : PySem.W.Frag) (c : Cs) : Sp := fun vs H Q E => ∃ (v : V) (b : Bool), vs = [v] ∧ DealIs K H v b ∧ (b = true → ∀ H', Same H H' → Q .non H') ∧ (b = false → ∀ H', Same H H' → E (.ref c.bad) none H')
def RoomIs (bs : List Str) (lo hi : Str → Int) (m : Int) : Prop := sumF lo bs ≤ m ∧ m ≤ sumF hi bs
def spRoomD (c : Cs) : Sp := fun vs H Q E => ∃ (bp : Addr) (bs : List Str) (lo hi : Str → Int) (m : Nat), vs = [.ref bp, .int m, .int 0] ∧ Bds H bp bs lo hi ∧ (RoomIs bs lo hi m → ∀ H', Same H H' → Q .non H') ∧
  (¬ RoomIs bs lo hi m → ∀ H' d, Same H H' → H' d = none → E (.ref c.no) (some d) (upd H' d (.xd [(("tick" : Str), .int 0)])))
/-- a deal and bounds as they must be -/
structure Sound (H : Hp) (p bp : Addr) (ds : List (Str × Str)) (bs : List Str) (lo hi : Str → Int) : Prop where
  deal : DealAt H p ds
  bds : Bds H bp bs lo hi
  ne : p ≠ bp
  some_ : 1 ≤ bs.length
  wd : ∀ d ∈ ds, wordS d.1 = true ∧ wordS d.2 = true
  wb : ∀ n ∈ bs, wordS n = true
theorem Sound.same {H H' : Hp} {p bp : Addr} {ds : List (Str × Str)} {bs : List Str} {lo hi : Str → Int} (h : Sound H p bp ds bs lo hi) (e : Same H H') : Sound H' p bp ds bs lo hi := ⟨h.deal.same e, h.bds.same e, h.ne, h.some_, h.wd, h.wb⟩
theorem word_few {x : Str} (h : wordS x = true) : x.length ≤ sizeLine := by
  unfold wordS at h
  have : x.length ≤ 8 := of_decide_eq_true (by
    simp only [Bool.and_eq_true] at h
    exact h.1.1.1.2)
  rw [sizeLine_eq]; omega
theorem Sound.isDeal {K : PySem.W.Frag} {H : Hp} {p bp : Addr} {ds : List (Str × Str)} {bs : List Str} {lo hi : Str → Int} (h : Sound H p bp ds bs lo hi) : DealIs K H (.ref p) true := by
  have t : (decide ((dealV ds).length ≤ 60) && (((dealV ds).all fun kv => wordB (kV kv.1)) && (dealV ds).all fun kv => wordB kv.2)) = true := by
    have l : (dealV ds).length = ds.length := List.length_map _
    rw [l, decide_eq_true h.deal.few, Bool.true_and, Bool.and_eq_true, List.all_eq_true, List.all_eq_true]
    constructor <;> intro kv hk <;> obtain ⟨d, hd, rfl⟩ := List.mem_map.mp hk
    · exact (h.wd d hd).1
    · exact (h.wd d hd).2
  rw [← t]
  refine .dict h.deal.at_ (fun kv hk => ?_) fun kv hk => ?_ <;> obtain ⟨d, hd, rfl⟩ := List.mem_map.mp hk
  · exact ⟨_, .str (word_few (h.wd d hd).1)⟩
  · exact ⟨_, .str (word_few (h.wd d hd).2)⟩
theorem bound_in {H : Hp} {bk : List (Key × V)} {bs : List Str} {lo hi : Str → Int} (keys : bk.map (·.1) = bs.map Sum.inr) (nod : bs.Nodup) (bnd : ∀ r, BoundIs H bk r (lo r) (hi r)) {i : Nat} {kv : Key × V} (h : bk[i]? = some kv) :
    ∃ n a, bs[i]? = some n ∧ kv = (.inr n, .ref a) ∧ H a = some (.tup [.int (lo n), .int (hi n)]) := by
  obtain ⟨k, v⟩ := kv
  obtain ⟨n, hn, rfl⟩ := keys_get keys h
  have val : valV bk (.inr n) = some v := by
    unfold valV
    have once : (bk.map (·.1)).Nodup := by
      rw [keys]
      exact List.Pairwise.map _ (fun a b ne e => ne (Sum.inr.inj e)) nod
    have : ∀ (l : List (Key × V)) (j : Nat), (l.map (·.1)).Nodup → l[j]? = some ((.inr n : Key), v) → (l.find? fun kv => decide (kv.1 = .inr n)).map (·.2) = some v := by
      intro l
      induction l with
      | nil => intro j _ e; cases e
      | cons y ys ih =>
        intro j d e
        rw [List.find?_cons]
        cases j with
        | zero => cases e; rw [decide_eq_true rfl]; rfl
        | succ j =>
          have d' := List.nodup_cons.mp d
          have m : ((.inr n : Key), v) ∈ ys := List.mem_of_getElem? e
          have ne : ¬ y.1 = .inr n := fun q => d'.1 (List.mem_map.mpr ⟨_, m, q.symm⟩)
          rw [decide_eq_false ne]
          exact ih j d'.2 e
    exact this bk i once h
  rcases bnd n with ⟨b1, _, _⟩ | ⟨a, b1, b2⟩
  · rw [val] at b1; cases b1
  · rw [val] at b1; cases b1; exact ⟨n, a, hn, rfl, b2⟩
theorem Sound.areBounds {K : PySem.W.Frag} {H : Hp} {p bp : Addr} {ds : List (Str × Str)} {bs : List Str} {lo hi : Str → Int} (h : Sound H p bp ds bs lo hi) : BoundsIs K H (.ref bp) true := by
  obtain ⟨bk, hk, keys, bnd⟩ := h.bds.at_
  have l := keys_len keys
  have some_ := h.some_
  have few := h.bds.few
  have each : ∀ kv ∈ bk, ∃ n a, n ∈ bs ∧ kv = (.inr n, .ref a) ∧ H a = some (.tup [.int (lo n), .int (hi n)]) := fun kv m => by
    obtain ⟨i, hi⟩ := List.mem_iff_getElem?.mp m
    obtain ⟨n, a, h1, h2, h3⟩ := bound_in keys h.bds.once bnd hi
    exact ⟨n, a, List.mem_of_getElem? h1, h2, h3⟩
  have t : ((decide (1 ≤ bk.length) && (decide (bk.length ≤ 12) && bk.all fun kv => wordB (kV kv.1))) && bk.all fun _ => true) = true := by
    rw [decide_eq_true (show 1 ≤ bk.length by omega), decide_eq_true (show bk.length ≤ 12 by omega), Bool.true_and, Bool.true_and, Bool.and_eq_true, List.all_eq_true, List.all_eq_true]
    refine ⟨fun kv m => ?_, fun _ _ => rfl⟩
    obtain ⟨n, a, h1, rfl, _⟩ := each kv m
    exact h.wb n h1
  rw [← t]
  refine .dict hk (fun kv m => ?_) _ fun kv m => ?_ <;> obtain ⟨n, a, h1, rfl, h2⟩ := each kv m
  · exact ⟨_, .str (word_few (h.wb n h1))⟩
  · have ok := h.bds.ok n
    have q := RangeIs.two (K := K) h2 (.inl ⟨_, rfl⟩) (.inl ⟨_, rfl⟩)
    have e : (countB (.int (lo n)) && countB (.int (hi n)) && leB (.int (lo n)) (.int (hi n))) = true := by
      show ((decide (0 ≤ lo n) && decide (lo n ≤ 60)) && (decide (0 ≤ hi n) && decide (hi n ≤ 60)) && decide (lo n ≤ hi n)) = true
      rw [decide_eq_true (show 0 ≤ lo n by omega), decide_eq_true (show lo n ≤ 60 by omega), decide_eq_true (show 0 ≤ hi n by omega), decide_eq_true (show hi n ≤ 60 by omega), decide_eq_true (show lo n ≤ hi n by omega)]; rfl
    rw [e] at q
    exact q
def spAskedD (K : PySem.W.Frag) (c : Cs) : Sp := fun vs H Q E => ∃ v u : V, vs = [v, u] ∧ ((DealIs K H v false ∧ ∀ H', Same H H' → E (.ref c.bad) none H') ∨ (DealIs K H v true ∧ BoundsIs K H u false ∧ ∀ H', Same H H' → E (.ref c.bnd) none H') ∨
  ∃ (p bp : Addr) (ds : List (Str × Str)) (bs : List Str) (lo hi : Str → Int), v = .ref p ∧ u = .ref bp ∧ Sound H p bp ds bs lo hi ∧ (RoomIs bs lo hi ds.length → ∀ H', Same H H' → Q .non H') ∧
    (¬ RoomIs bs lo hi ds.length → ∀ H' d, Same H H' → H' d = none → E (.ref c.no) (some d) (upd H' d (.xd [(("tick" : Str), .int 0)]))))
/-- the list of one part of all bounds -/
theorem picks {K : PySem.W.Frag} {σ : L2.St} {H : Hp} {bp : Addr} {bs : List Str} {lo hi : Str → Int} {g : Str → Int} {j : Int} {Q : VK} {te : TE} {own : List Nat} {s3 : Nat} (h0 : σ[0]? = some (some (.ref bp))) (hb : Bds H bp bs lo hi)
    (elt : ∀ n a H', H' a = some (.tup [.int (lo n), .int (hi n)]) → ∀ Qe : VK, Qe (.int (g n)) H' → gName s3 (.ref a) (wipe σ own) H' fun σ2 H2 => wipe σ2 own = wipe σ own ∧ te σ2 H2 Qe)
    (k : ∀ H' D, Same H H' → H' D = some (.lst ((bs.map g).map V.int)) → Q (.ref D) H') : tLockE (tLc (iVals (tVar 0)) (gName s3) tYes te own) σ H Q := by
  obtain ⟨bk, hk, keys, bnd⟩ := hb.at_
  have kl := keys_len keys
  have few := hb.few
  refine ⟨bp, _, hk, trivial, fun od => ⟨_, h0, bp, od, _, rfl, upd_same, fun D nD => ?_⟩⟩
  have naD : bp ≠ D := fun q => by rw [← q, upd_same] at nD; cases nD
  have nD1 : H D = none := by rw [upd_ne naD.symm] at nD; exact nD
  refine lc_it walk_values (fun i H' => H' bp = some (.frz od (.dK bk)) ∧ H' D = some (.lst (((bs.take i).map g).map V.int)) ∧ ∀ b o, H b = some o → b ≠ bp → H' b = some o) ⟨by rw [upd_ne naD, upd_same], by rw [upd_same, List.take_zero]; rfl, fun b o z n => by rw [upd_ne (ne_of_none z nD1), upd_ne n]; exact z⟩ (fun i H' _ z => z.1) ?_ ?_
  · rintro i x H3 H4 hi' ⟨z1, z2, z3⟩ ⟨rfl, k', hx⟩
    obtain ⟨n, a, hn, e, ha⟩ := bound_in keys hb.once bnd hx
    cases e
    have ha4 := z3 _ _ ha fun q => by rw [q, hk] at ha; cases ha
    refine elt n a H4 ha4 _ ⟨_, z2, by rw [List.length_map, List.length_map, List.length_take, sizeLine_eq]; omega, by rw [upd_ne naD]; exact z1, ?_, fun b o z q => by rw [upd_ne (ne_of_none z nD1)]; exact z3 b o z q⟩
    rw [upd_same, take_snoc hn, List.map_append, List.map_append]; rfl
  · rintro H3 ⟨z1, z2, z3⟩
    rw [kl, List.take_length] at z2
    exact ⟨z1, k _ D (same_back hk z3) (by rw [upd_ne naD.symm]; exact z2)⟩
section
variable {P : Program} {w : World} {K : PySem.W.Frag} {mg : Str → Option Value} {base : Heap} {c : Cs}
abbrev sCheckD : Stmt := top 22
theorem scCheckD : FnScope ["deal"] ["deal"] (defScope sCheckD) := ⟨rfl, rfl, rfl, by decide +kernel, rfl, by decide +kernel, by decide +kernel⟩
theorem ok_checkD {f fN : Addr} {fd fdN : FuncData} (F : Fun K "check_deal" "check_deal" sCheckD f fd) (R : TxE P K mg c) (A_is_deal : At K mg "is_deal" fN) (G_is_deal : FnOk P w K mg base CX0 3 fN fdN ["deal"] (spIsDeal K)) (b_is_deal : Binds K fdN ["deal"] []) : FnOk P w K mg base (L2.CX P w) 4 f fd ["deal"] (spCheckD K c) := by
  refine F.okX scCheckD (fun vs H Q E h => ?_) (fun cdv A outer s H vs Q E hr h => ?_)
  · obtain ⟨v, b, rfl, _⟩ := h
    rfl
  · obtain ⟨v, b, rfl, is, k1, k2⟩ := h
    have hr_is_deal : Room 3 _ := hr
    refine ⟨_, (pss_one (ps_if (pt_not (pt_val (pe_call G_is_deal hr_is_deal (by rfl) A_is_deal.g A_is_deal.k b_is_deal .nil pass0 (pa_cons (pv 0) pa_nil))))
        (pss_one (ps_raise rfl (takes_of rfl rfl rfl rfl) (pmk_own PySem.F.excBase_ValueError R.e_BadDeal.x R.e_BadDeal.c R.e_BadDeal.k (raises_own R.e_BadDeal.b R.e_BadDeal.t) (by rfl))))
        pss_nil)), ?_⟩
    refine ⟨_, rfl, v, b, rfl, is, fun H1 e1 => ⟨_, rfl, ?_⟩⟩
    cases b with
    | true => exact iteF (k1 rfl _ e1)
    | false => exact iteT (k2 rfl _ e1)
abbrev sRoom : Stmt := top 24
abbrev nRoom : List Str := ["bounds", "many", "tick", "pair"]
theorem scRoom : FnScope nRoom ["bounds", "many", "tick"] (defScope sRoom) := ⟨rfl, rfl, rfl, by decide +kernel, rfl, by decide +kernel, by decide +kernel⟩
theorem ok_room {f : Addr} {fd : FuncData} (F : Fun K "check_room" "check_room" sRoom f fd) (T : TxD mg) (R : TxE P K mg c) : FnOk P w K mg base (L2.CX P w) 4 f fd ["bounds", "many", "tick"] (spRoomD c) := by
  refine F.okX scRoom (fun vs H Q E h => ?_) (fun cdv A outer s H vs Q E hr h => ?_)
  · obtain ⟨bp, bs, lo, hi, m, rfl, _⟩ := h
    rfl
  · obtain ⟨bp, bs, lo, hi, m, rfl, hb, k1, k2⟩ := h
    have nd := scRoom.nd
    have hr_NoDeal : Room 3 _ := hr
    have hu1 : _ < cLine := hr.in1.units0
    refine ⟨_, (pss_one (ps_if (pt_not (pt_chain op_le op_le (pe_callB (cr_sum rfl) (by rfl) T.sum (by decide +kernel) (pa_cons (pe_lock (pe_lc (own := [("pair", 3)]) (by rfl) nd (pi_values (pv 0)) (blkOk_by (N := nRoom) (sc := defScope sRoom) (by decide +kernel)) (fun _ _ _ _ _ => (pg_name (i := 3) nd rfl (Or.inl rfl))) (fun _ _ _ _ _ => pts_nil) (fun _ _ _ _ _ => (pe_ix (ix_tupK (K := K) rfl) (pv 3) pe_int (fun _ _ => rfl))))) pa_nil)) (pv 1) (pe_callB (cr_sum rfl) (by rfl) T.sum (by decide +kernel) (pa_cons (pe_lock (pe_lc (own := [("pair", 3)]) (by rfl) nd (pi_values (pv 0)) (blkOk_by (N := nRoom) (sc := defScope sRoom) (by decide +kernel)) (fun _ _ _ _ _ => (pg_name (i := 3) nd rfl (Or.inl rfl))) (fun _ _ _ _ _ => pts_nil) (fun _ _ _ _ _ => (pe_ix (ix_tupK (K := K) rfl) (pv 3) pe_int (fun _ _ => rfl))))) pa_nil))))
        (pss_one (ps_raise rfl (takes_of rfl rfl rfl rfl) (pmk_tk R.e_NoDeal hr_NoDeal (pa_cons (pv 2) pa_nil) (by rfl))))
        pss_nil)), ?_⟩
    refine picks (K := K) (g := lo) (j := 0) rfl hb (fun n a H' ha Qe q => ⟨rfl, _, rfl, a, _, _, .int (lo n), rfl, rfl, SqT.of ha, atI_nat (j := 0) rfl, q⟩) fun H1 D e1 hD => ?_
    refine ⟨D, bs.map lo, rfl, SqL.of hD, _, rfl, _, _, rfl, rfl, _, rfl, ?_⟩
    rw [sum_map]
    have no : ∀ H', Same H H' → ¬ RoomIs bs lo hi m → tMkTk c.no (tCons (tVar 2) tNil) (L2.start nRoom [V.ref bp, V.int m, V.int 0]) H' fun cls d H' => E cls d H' := fun H' e q => ⟨_, rfl, _, rfl, .inr ⟨0, rfl, by decide⟩, fun d nd => k2 q H' d e nd⟩
    by_cases c1 : sumF lo bs ≤ m
    · rw [decide_eq_true c1]
      refine iteT (picks (K := K) (g := hi) (j := 1) rfl (hb.same e1) (fun n a H' ha Qe q => ⟨rfl, _, rfl, a, _, _, .int (hi n), rfl, rfl, SqT.of ha, atI_nat (j := 1) rfl, q⟩) fun H2 D2 e2 hD2 => ?_)
      refine ⟨D2, bs.map hi, rfl, SqL.of hD2, _, _, rfl, rfl, _, rfl, ?_⟩
      rw [sum_map]
      by_cases c2 : (m : Int) ≤ sumF hi bs
      · rw [decide_eq_true c2]
        exact iteF (k1 ⟨c1, c2⟩ _ (e1.trans e2))
      · rw [decide_eq_false c2]
        exact iteT (no _ (e1.trans e2) fun z => c2 z.2)
    · rw [decide_eq_false c1]
      exact iteF ⟨_, rfl, iteT (no _ e1 fun z => c1 z.1)⟩
abbrev sAskedD : Stmt := top 23
theorem scAskedD : FnScope ["deal", "bounds"] ["deal", "bounds"] (defScope sAskedD) := ⟨rfl, rfl, rfl, by decide +kernel, rfl, by decide +kernel, by decide +kernel⟩
theorem ok_askedD {f fD fB fR : Addr} {fd fdD fdB fdR : FuncData} (F : Fun K "check_asked" "check_asked" sAskedD f fd) (T : TxD mg) (R : TxE P K mg c)
    (A_check_deal : At K mg "check_deal" fD) (G_check_deal : FnOk P w K mg base (L2.CX P w) 4 fD fdD ["deal"] (spCheckD K c)) (b_check_deal : Binds K fdD ["deal"] [])
    (A_are_bounds : At K mg "are_bounds" fB) (G_are_bounds : FnOk P w K mg base CX0 4 fB fdB ["bounds"] (spAreBounds K)) (b_are_bounds : Binds K fdB ["bounds"] [])
    (A_check_room : At K mg "check_room" fR) (G_check_room : FnOk P w K mg base (L2.CX P w) 4 fR fdR ["bounds", "many", "tick"] (spRoomD c)) (b_check_room : Binds K fdR ["bounds", "many", "tick"] []) : FnOk P w K mg base (L2.CX P w) 5 f fd ["deal", "bounds"] (spAskedD K c) := by
  refine F.okX scAskedD (fun vs H Q E h => ?_) (fun cdv A outer s H vs Q E hr h => ?_)
  · obtain ⟨v, u, rfl, _⟩ := h
    rfl
  · obtain ⟨v, u, rfl, is⟩ := h
    have hr_check_deal : Room 4 _ := hr
    have hr_are_bounds : Room 4 _ := hr
    have hr_check_room : Room 4 _ := hr
    refine ⟨_, (pss_cons (ps_expr (pe_callS G_check_deal hr_check_deal (by rfl) A_check_deal.g A_check_deal.k b_check_deal (E := fun _ => E) (fun σ => passAt (takes_of rfl rfl rfl rfl) σ) (pa_cons (pv 0) pa_nil)))
      (pss_cons (ps_if (pt_not (pt_val (pe_call G_are_bounds hr_are_bounds (by rfl) A_are_bounds.g A_are_bounds.k b_are_bounds .nil pass0 (pa_cons (pv 1) pa_nil))))
        (pss_one (ps_raise rfl (takes_of rfl rfl rfl rfl) (pmk_own PySem.F.excBase_ValueError R.e_BadBounds.x R.e_BadBounds.c R.e_BadBounds.k (raises_own R.e_BadBounds.b R.e_BadBounds.t) (by rfl))))
        pss_nil)
      (pss_one (ps_expr (pe_callS G_check_room hr_check_room (by rfl) A_check_room.g A_check_room.k b_check_room (E := fun _ => E) (fun σ => passAt (takes_of rfl rfl rfl rfl) σ) (pa_cons (pv 1) (pa_cons (pe_callB call_lenD (by rfl) T.len PySem.boot_len (pa_cons (pv 0) pa_nil)) (pa_cons pe_int pa_nil)))))))), ?_⟩
    rcases is with ⟨d1, k⟩ | ⟨d1, d2, k⟩ | ⟨p, bp, ds, bs, lo, hi, rfl, rfl, so, k1, k2⟩
    · exact into ⟨_, rfl, v, false, rfl, d1, fun z => (by cases z), fun _ H1 e1 => k H1 e1⟩
    · refine into ⟨_, rfl, v, true, rfl, d1, fun _ H1 e1 => ?_, fun z => (by cases z)⟩
      exact into ⟨_, rfl, u, false, rfl, d2.same e1, fun H2 e2 => ⟨_, rfl, iteT (k _ (e1.trans e2))⟩⟩
    · refine into ⟨_, rfl, _, true, rfl, so.isDeal, fun _ H1 e1 => ?_, fun z => (by cases z)⟩
      refine into ⟨_, rfl, _, true, rfl, (so.same e1).areBounds, fun H2 e2 => ⟨_, rfl, iteF ?_⟩⟩
      have e0 := e1.trans e2
      refine ⟨_, rfl, _, rfl, p, _, rfl, e0 _ _ so.deal.at_, bp, bs, lo, hi, ds.length, by rw [show (dealV ds).length = ds.length from List.length_map _], so.bds.same e0, fun q H3 e3 => k1 q _ (e0.trans e3), fun q H3 d e3 nd => k2 q H3 d (e0.trans e3) nd⟩
end
end KD
end
section
/-! Distinct ones. -/
namespace DM
variable {α : Type} [DecidableEq α]
theorem short : ∀ (ks L : List α), L.Nodup → (∀ k ∈ L, k ∈ ks) → L.length ≤ ks.length ∧ (¬ ks.Nodup → L.length < ks.length)
  | [], L, _, h => by
    cases L with
    | nil => exact ⟨Nat.le_refl _, fun n => absurd List.nodup_nil n⟩
    | cons a L => exact absurd (h a List.mem_cons_self) List.not_mem_nil
  | k :: ks, L, d, h => by
    have rest := short ks (L.erase k) (d.erase k) fun x hx => by
      have z := (List.Nodup.mem_erase_iff d).mp hx
      exact (List.mem_cons.mp (h x z.2)).resolve_left z.1
    have le : L.length ≤ (L.erase k).length + 1 := by
      rw [List.length_erase]; split <;> omega
    rw [List.length_cons]
    refine ⟨by omega, fun n => ?_⟩
    by_cases hk : k ∈ ks
    · have z := (short ks L d fun x hx => (List.mem_cons.mp (h x hx)).elim (fun e => e ▸ hk) id).1
      omega
    · have : ¬ ks.Nodup := fun z => n (List.nodup_cons.mpr ⟨hk, z⟩)
      have := rest.2 this
      omega
theorem count_nodup {ks L : List α} (d : L.Nodup) (h : ∀ k, k ∈ L ↔ k ∈ ks) : L.length = ks.length ↔ ks.Nodup := by
  have a := short ks L d fun k hk => (h k).mp hk
  constructor
  · intro e
    by_cases z : ks.Nodup
    · exact z
    · have := a.2 z; omega
  · intro z
    have b := short L ks z fun k hk => (h k).mpr hk
    omega
end DM
end
section
/-! How many are in a set of numbers or words. -/
namespace MX
open PySem PySem.Spec PyProof.Rows L2 PySem.W
def rLenQ (P : Program) (w : World) : List V → Hp → VK → Prop := fun xs H Q => ∃ (a : Addr) (S : Key → Bool) (n : Nat), xs = [V.ref a] ∧ H a = some (SetQO P w a S n) ∧ ∀ L : List Key, L.Nodup → (∀ k, k ∈ L ↔ S k = true) → L.length = n → Q (.int n) H
theorem call_lenQ {X : Cx} : CallR X (.builtin "len") (rLenQ X.prog X.w) := by
  intro pins s σ H xs us Q I r h
  obtain ⟨a, S, n, rfl, ha, q⟩ := h
  rw [Vals.ref1 r]
  obtain ⟨es, ep, t, R, el, nd, mem, sz⟩ := (get_setQ I ha).scan
  obtain ⟨o, ho, ex, hd⟩ := R.obj
  have few := R.low
  refine call_len_set ho ex hd R.fits (by unfold scanBound at few; omega) ⟨.int n, H, I.tok _, ⟨_, by rw [sz]⟩, q _ nd (fun k => (mem k).symm) ?_⟩
  show (es.toList.map _).length = n
  rw [List.length_map, Array.length_toList]; exact sz
end MX
end
section
/-! Deals: what moves lead to. -/
namespace KD
open PySem L2 DM
def look (ds : List (Str × Str)) (l : Str) : Option Str := (ds.find? fun d => decide (d.1 = l)).map (·.2)
theorem val_deal (l : Str) : ∀ ds : List (Str × Str), valV (dealV ds) (.inr l) = (look ds l).map V.str
  | [] => rfl
  | d :: ds => by
    have ih := val_deal l ds
    unfold valV look dealV at ih ⊢
    rw [List.map_cons, List.find?_cons, List.find?_cons]
    by_cases q : d.1 = l
    · rw [show decide (((Sum.inr d.1 : Key), V.str d.2).1 = .inr l) = true from decide_eq_true (by rw [q]), decide_eq_true q]; rfl
    · rw [show decide (((Sum.inr d.1 : Key), V.str d.2).1 = .inr l) = false from decide_eq_false fun z => q (Sum.inr.inj z), decide_eq_false q]
      exact ih
def putL (ds : List (Str × Str)) (l g : Str) : List (Str × Str) := ds.map fun d => if d.1 = l then (d.1, g) else d
theorem putL_lanes (ds : List (Str × Str)) (l g : Str) : (putL ds l g).map (·.1) = ds.map (·.1) := by
  unfold putL
  rw [List.map_map]
  refine List.map_congr_left fun d _ => ?_
  show (if d.1 = l then (d.1, g) else d).1 = d.1
  split <;> rfl
theorem look_mem {ds : List (Str × Str)} {l r : Str} (h : look ds l = some r) : (l, r) ∈ ds := by
  unfold look at h
  cases e : ds.find? fun d => decide (d.1 = l) with
  | none => rw [e] at h; cases h
  | some d =>
    rw [e] at h
    have := of_decide_eq_true (List.find?_some (p := fun d : Str × Str => decide (d.1 = l)) e)
    cases h
    rw [← this]; exact List.mem_of_find?_eq_some e
theorem look_none {ds : List (Str × Str)} {l : Str} : look ds l = none ↔ l ∉ ds.map (·.1) := by
  unfold look
  rw [Option.map_eq_none_iff, List.find?_eq_none]
  constructor
  · intro h m
    obtain ⟨d, hd, e⟩ := List.mem_map.mp m
    exact h d hd (decide_eq_true e)
  · intro h d hd e
    exact h (List.mem_map.mpr ⟨d, hd, of_decide_eq_true e⟩)
theorem put_deal {ds : List (Str × Str)} {l r g : Str} (h : look ds l = some r) : putK (dealV ds) (.inr l) (.str g) = dealV (putL ds l g) := by
  unfold putK
  rw [if_pos]
  · unfold dealV putL
    rw [List.map_map, List.map_map]
    refine List.map_congr_left fun d _ => ?_
    show (if (Sum.inr d.1 : Key) = .inr l then ((Sum.inr d.1 : Key), V.str g) else (.inr d.1, .str d.2)) = (.inr (if d.1 = l then (d.1, g) else d).1, .str (if d.1 = l then (d.1, g) else d).2)
    by_cases q : d.1 = l
    · rw [if_pos (by rw [q]), if_pos q]
    · rw [if_neg fun z => q (Sum.inr.inj z), if_neg q]
  · exact List.any_eq_true.mpr ⟨(.inr l, .str r), List.mem_map.mpr ⟨(l, r), look_mem h, rfl⟩, decide_eq_true rfl⟩
/-- the deal behind moves -/
def once (ds : List (Str × Str)) : List (Str × Str × Str) → List (Str × Str) → Option (List (Str × Str))
  | [], b => some b
  | y :: ys, b => if look ds y.1 = some y.2.1 ∧ look b y.1 = some y.2.1 ∧ y.2.2 ≠ y.2.1 then once ds ys (putL b y.1 y.2.2) else none
theorem once_lanes (ds : List (Str × Str)) : ∀ (ys : List (Str × Str × Str)) (b b' : List (Str × Str)), once ds ys b = some b' → b'.map (·.1) = b.map (·.1)
  | [], b, b', h => by cases h; rfl
  | y :: ys, b, b', h => by
    unfold once at h
    split at h
    · rw [once_lanes ds ys _ _ h, putL_lanes]
    · cases h
def spOnce : Sp := fun vs H Q _ => ∃ (p m : Addr) (ds : List (Str × Str)) (ys : List (Str × Str × Str)), vs = [.ref p, .ref m] ∧ DealAt H p ds ∧ MovesAt H m ys ∧ (∀ b, once ds ys ds = some b → ∀ H' B, Same H H' → H B = none → H' B = some (.dK (dealV b)) → Q (.ref B) H') ∧ (once ds ys ds = none → ∀ H', Same H H' → Q .non H')
section
variable {P : Program} {w : World} {K : PySem.W.Frag} {mg : Str → Option Value} {base : Heap} {c : Cs}
abbrev sOnce : Stmt := top 14
abbrev nOnce : List Str := ["deal", "moves", "behind", "lane", "reader", "goal"]
theorem scOnce : FnScope nOnce ["deal", "moves"] (defScope sOnce) := ⟨rfl, rfl, rfl, by decide +kernel, rfl, by decide +kernel, by decide +kernel⟩
theorem ok_once {f : Addr} {fd : FuncData} (F : Fun K "moved_once" "moved_once" sOnce f fd) (T : TxD mg) : FnOk P w K mg base CX0 2 f fd ["deal", "moves"] spOnce := by
  refine F.ok scOnce (fun vs H Q E h => ?_) (fun cdv A outer s H vs Q E hr h => ?_)
  · obtain ⟨p, m, ds, ys, rfl, _⟩ := h
    rfl
  · obtain ⟨p, m, ds, ys, rfl, hd, hm, k1, k2⟩ := h
    have nd := scOnce.nd
    have hu1 : _ < cLine := hr.in1.units0
    refine ⟨_, (pss_cons (ps_set (i := 2) nd rfl (Or.inl rfl) (pe_callTy call_dictD (by rfl) T.dict (by decide +kernel) (pa_cons (pv 0) pa_nil)))
      (pss_cons (ps_for PassesOwn.never rfl (pi_list (pv 1)) (pg_tup rfl (pgs_cons (pg_name (i := 3) nd rfl (Or.inl rfl)) (pgs_cons (pg_name (i := 4) nd rfl (Or.inl rfl)) (pgs_cons (pg_name (i := 5) nd rfl (Or.inl rfl)) pgs_nil))))
        (pss_cons (ps_if (PW.pt (pw_or (pt_cmp (pc_dnotin hu1 (pv 3) (pv 0))) (pw_or (pt_cmpR op_ne (pv 4) (pe_dget hu1 (pv 0) (pv 3) (fun _ _ => rfl)) (nomark _)) (pw_or (pt_cmpR op_ne (pe_dget hu1 (pv 2) (pv 3) (fun _ _ => rfl)) (pv 4) (nomark _)) (pw_or1 (pt_cmpR op_eq (pv 5) (pv 4) (nomark _)))))))
          (pss_one (ps_ret pe_non))
          pss_nil)
        (pss_one (ps_dput hu1 (pv 2) (pv 3) (pv 5) rfl))))
      (pss_one (ps_ret (pv 2))))), ?_⟩
    obtain ⟨ts, h1, h2, h3⟩ := hm.at_
    refine into ⟨_, rfl, p, _, rfl, .inl hd.at_, fun B nB => ?_⟩
    have e1 : Same H (upd H B (.dK (dealV ds))) := made' nB
    have hB : (upd H B (.dK (dealV ds))) B = some (.dK (dealV ds)) := upd_same
    generalize upd H B (.dK (dealV ds)) = H1 at e1 hB
    refine into ⟨_, rfl, m, rfl, ⟨_, SqL.of (e1 _ _ h1)⟩, ?_⟩
    refine for_list (xs := ts.map V.ref) (fun i σ H' => ∃ b, (∃ y1 y2 y3, σ = [some (.ref p), some (.ref m), some (.ref B), y1, y2, y3]) ∧ once ds ys ds = once ds (ys.drop i) b ∧ b.map (·.1) = ds.map (·.1) ∧ H' B = some (.dK (dealV b)) ∧ ∀ q o, H q = some o → H' q = some o) ⟨ds, ⟨_, _, _, rfl⟩, rfl, rfl, hB, fun q o z => e1 _ _ z⟩ (fun i σ H' _ ⟨_, _, _, _, _, z⟩ => SqL.of (z _ _ h1)) ?_ ?_
    · rintro i x σ H' hx ⟨b, ⟨y1, y2, y3, rfl⟩, eo, el, zB, zk⟩
      obtain ⟨t, ht, rfl⟩ : ∃ t, ts[i]? = some t ∧ x = .ref t := by
        rw [List.getElem?_map] at hx
        cases e : ts[i]? with
        | none => rw [e] at hx; cases hx
        | some t => rw [e] at hx; cases hx; exact ⟨t, rfl, rfl⟩
      have lt : i < ys.length := by
        have := (List.getElem?_eq_some_iff.mp ht).1
        omega
      obtain ⟨y, hy⟩ : ∃ y, ys[i]? = some y := ⟨_, List.getElem?_eq_getElem lt⟩
      have tup := zk _ _ (h3 i t y ht hy)
      have hd' := zk _ _ hd.at_
      rw [drop_cons hy] at eo
      refine ⟨t, _, rfl, SqT.of tup, rfl, _, _, rfl, _, _, rfl, _, _, rfl, rfl, ?_⟩
      have zs : Same H H' := fun q o z => zk q o z
      have no : ¬ (look ds y.1 = some y.2.1 ∧ look b y.1 = some y.2.1 ∧ y.2.2 ≠ y.2.1) → Q .non H' := fun n => k2 (by rw [eo]; unfold once; rw [if_neg n]) H' zs
      cases c1 : look ds y.1 with
      | none =>
        refine into ⟨_, rfl, _, rfl, p, _, rfl, DGet.k (k := .inr y.1) hd', ?_⟩
        rw [val_deal, c1]
        exact ⟨true, rfl, iteT (iteT (no fun z => by rw [c1] at z; cases z.1))⟩
      | some r =>
        have v1 : valV (dealV ds) (.inr y.1) = some (.str r) := by rw [val_deal, c1]; rfl
        refine into ⟨_, rfl, _, rfl, p, _, rfl, DGet.k (k := .inr y.1) hd', ?_⟩
        rw [v1]
        refine ⟨false, rfl, iteF ⟨_, rfl, _, rfl, _, rfl, p, _, rfl, getK (k := .inr y.1) (.inl hd') v1, rfl, _, rfl, ?_⟩⟩
        by_cases c2 : y.2.1 = r
        · refine iteF' (by simp [c2]) ?_
          have inb : y.1 ∈ b.map (·.1) := by rw [el]; exact List.mem_map.mpr ⟨(y.1, r), look_mem c1, rfl⟩
          cases c3 : look b y.1 with
          | none => exact absurd inb (look_none.mp c3)
          | some q =>
            have v2 : valV (dealV b) (.inr y.1) = some (.str q) := by rw [val_deal, c3]; rfl
            refine ⟨_, rfl, _, rfl, B, _, rfl, getK (k := .inr y.1) (.inl zB) v2, _, rfl, rfl, _, rfl, ?_⟩
            by_cases c4 : q = y.2.1
            · refine iteF' (by simp [c4]) ⟨_, rfl, _, rfl, rfl, _, rfl, ?_⟩
              by_cases c5 : y.2.2 = y.2.1
              · exact iteT' (by simp [c5]) (no fun z => z.2.2 c5)
              · refine iteF' (by simp [c5]) ?_
                have bl : b.length = ds.length := by
                  have := congrArg List.length el
                  rw [List.length_map, List.length_map] at this; exact this
                have few := hd.few
                refine ⟨_, rfl, _, rfl, _, rfl, B, _, rfl, DPut.k (k := .inr y.1) zB (by rw [show (dealV b).length = b.length from List.length_map _, sizeLine_eq]; omega), putL b y.1 y.2.2, ⟨_, _, _, rfl⟩, ?_, ?_, ?_, fun q o z => ?_⟩
                · rw [eo]
                  conv => lhs; unfold once
                  rw [if_pos ⟨by rw [c1, c2], by rw [c3, c4], c5⟩]
                · rw [putL_lanes, el]
                · rw [upd_same, put_deal c3]
                · rw [upd_ne (ne_of_none z nB)]; exact zk q o z
            · exact iteT' (by simp [c4]) (iteT (no fun z => by rw [c3] at z; exact c4 (Option.some.inj z.2.1)))
        · exact iteT' (by simp [c2]) (iteT (no fun z => by rw [c1] at z; exact c2 (Option.some.inj z.1).symm))
    · rintro σ H' ⟨b, ⟨y1, y2, y3, rfl⟩, eo, el, zB, zk⟩
      rw [List.length_map, h2, List.drop_length] at eo
      exact ⟨_, rfl, k1 b eo _ B (fun q o z => zk q o z) nB zB⟩
end
end KD
end
section
/-! Deals: moves as evidence. -/
namespace KD
open PySem L2 DM
/-- all else stands -/
def Off (p : Addr) (H H' : Hp) : Prop := ∀ b o, H b = some o → b ≠ p → H' b = some o
def mF (a : Addr) (way : V) (b : Addr) : List (Str × V) := putF "readers" (.ref b) (putF "way" way (putF "moves" (.ref a) []))
theorem mF_moves {a b : Addr} {way : V} : (mF a way b).lookup ("moves" : Str) = some (.ref a) := by
  unfold mF
  rw [lookup_putF, if_neg (by decide +kernel), lookup_putF, if_neg (by decide +kernel), lookup_putF, if_pos rfl]
theorem mF_way {a b : Addr} {way : V} : (mF a way b).lookup ("way" : Str) = some way := by
  unfold mF
  rw [lookup_putF, if_neg (by decide +kernel), lookup_putF, if_pos rfl]
theorem mF_readers {a b : Addr} {way : V} : (mF a way b).lookup ("readers" : Str) = some (.ref b) := by
  unfold mF
  rw [lookup_putF, if_pos rfl]
theorem mF_none {a b : Addr} {way : V} {m : Str} (h : ¬ m = "readers" ∧ ¬ m = "way" ∧ ¬ m = "moves") : (mF a way b).lookup m = none := by
  unfold mF
  rw [lookup_putF, if_neg h.1, lookup_putF, if_neg h.2.1, lookup_putF, if_neg h.2.2]; rfl
/-- evidence -/
structure EvAt (c : Cs) (H : Hp) (x : Addr) (ys : List (Str × Str × Str)) (way : Str) (rs : List Str) : Prop where
  at_ : ∃ dx a b, H x = some (.ins c.moves dx (mF a (.str way) b)) ∧ MovesAt H a ys ∧ H b = some (.lst (rs.map V.str))
theorem EvAt.same {c : Cs} {H H' : Hp} {x : Addr} {ys : List (Str × Str × Str)} {way : Str} {rs : List Str} (h : EvAt c H x ys way rs) (e : Same H H') : EvAt c H' x ys way rs :=
  ⟨let ⟨dx, a, b, h1, h2, h3⟩ := h.at_; ⟨dx, a, b, e _ _ h1, h2.same e, e _ _ h3⟩⟩
def spMI (c : Cs) : Sp := fun vs H Q _ => ∃ (x dx a b : Addr) (way : V) (us ws : List V), vs = [.ref x, .ref a, way, .ref b] ∧ H x = some (.ins c.moves dx []) ∧ H a = some (.lst us) ∧ H b = some (.lst ws) ∧
  ∀ (H' : Hp) (dx' a' b' : Addr), Off x H H' → H' x = some (.ins c.moves dx' (mF a' way b')) → H' a' = some (.lst us) → H' b' = some (.lst ws) → H a' = none → H b' = none → Q .non H'
/-- what evidence shows -/
def Shows (ds : List (Str × Str)) (bs : List Str) (lo hi : Str → Int) (ys : List (Str × Str × Str)) (way : Str) (rs : List Str) : Prop :=
  ∃ b, once ds ys ds = some b ∧ Inn b bs lo hi ∧ (way = "leaving" ∨ way = "coming") ∧ rs.Nodup ∧ (∀ r ∈ rs, r ∈ alls ds bs) ∧ sumF (needT (fun n => cnt n ds) lo hi way) rs = ys.length
theorem in_two (a b w : Str) : inV (V.str w) [V.str a, V.str b] = decide (w = a ∨ w = b) := by
  show ((a == w) || ((b == w) || false)) = _
  rw [Bool.or_false, Bool.eq_iff_iff, Bool.or_eq_true, beq_iff_eq, beq_iff_eq, decide_eq_true_iff]
  exact ⟨fun z => z.imp Eq.symm Eq.symm, fun z => z.imp Eq.symm Eq.symm⟩
theorem some_tab (c : Str → Int) (r : Str) (ns : List Str) : (valV (tab c ns) (.inr r)).isSome = decide (r ∈ ns) := by
  rw [val_tab]
  by_cases h : r ∈ ns
  · rw [if_pos h, decide_eq_true h]; rfl
  · rw [if_neg h, decide_eq_false h]; rfl
theorem str_at {rs : List Str} {i : Nat} {x : V} (h : (rs.map V.str)[i]? = some x) : ∃ r, rs[i]? = some r ∧ x = .str r := by
  rw [List.getElem?_map] at h
  cases e : rs[i]? with
  | none => rw [e] at h; cases h
  | some r => rw [e] at h; exact ⟨r, rfl, (Option.some.inj h).symm⟩
def spShows (c : Cs) : Sp := fun vs H Q _ => ∃ (x p bp : Addr) (ds : List (Str × Str)) (bs : List Str) (lo hi : Str → Int) (ys : List (Str × Str × Str)) (way : Str) (rs : List Str), vs = [.ref x, .ref p, .ref bp] ∧ EvAt c H x ys way rs ∧ Sound H p bp ds bs lo hi ∧ RoomIs bs lo hi ds.length ∧ rs.length ≤ 1000 ∧ way.length ≤ sizeLine ∧
  ∀ H' b, Same H H' → (b = true ↔ Shows ds bs lo hi ys way rs) → Q (.bl b) H'
section
variable {P : Program} {w : World} {K : PySem.W.Frag} {mg : Str → Option Value} {base : Heap} {c : Cs}
abbrev sMI : Stmt := inClass (top 13) 0
theorem scMI : FnScope ["self", "moves", "way", "readers"] ["self", "moves", "way", "readers"] (defScope sMI) := ⟨rfl, rfl, rfl, by decide +kernel, rfl, by decide +kernel, by decide +kernel⟩
theorem ok_mI {f : Addr} {fd : FuncData} (F : Fun K "__init__" "Moves.__init__" sMI f fd) (T : TxD mg) (R : TxE P K mg c) : FnOk P w K mg base CX0 1 f fd ["self", "moves", "way", "readers"] (spMI c) := by
  refine F.ok scMI (fun vs H Q E h => ?_) (fun cdv A outer s H vs Q E hr h => ?_)
  · obtain ⟨x, dx, a, b, way, us, ws, rfl, _⟩ := h
    rfl
  · obtain ⟨x, dx, a, b, way, us, ws, rfl, hx, ha, hb, k⟩ := h
    have nd := scMI.nd
    refine ⟨_, (pss_cons (ps_fld (pv 0) (pe_callTy call_list_of (by rfl) T.list (by decide +kernel) (pa_cons (pv 1) pa_nil)) rfl)
      (pss_cons (ps_fld (pv 0) (pv 2) rfl)
      (pss_one (ps_fld (pv 0) (pe_callTy call_list_of (by rfl) T.list (by decide +kernel) (pa_cons (pv 3) pa_nil)) rfl)))), ?_⟩
    refine into_fld ⟨_, rfl, a, _, rfl, .inl (SqL.of ha), fun l nl => ⟨_, rfl, x, _, dx, _, rfl, made' nl _ _ hx, R.Moves.cl, R.n_moves, by decide, ?_⟩⟩
    have e1 : Same H (upd H l (.lst us)) := made' nl
    have xl : l ≠ x := fun z => by rw [z, hx] at nl; cases nl
    have hl : (upd (upd H l (.lst us)) x (.ins c.moves dx (putF "moves" (.ref l) []))) l = some (.lst us) := by rw [upd_ne xl, upd_same]
    have hx1 : (upd (upd H l (.lst us)) x (.ins c.moves dx (putF "moves" (.ref l) []))) x = some (.ins c.moves dx (putF "moves" (.ref l) [])) := upd_same
    have o1 : Off x H (upd (upd H l (.lst us)) x (.ins c.moves dx (putF "moves" (.ref l) []))) := fun q o z n => by rw [upd_ne n]; exact e1 _ _ z
    generalize upd (upd H l (.lst us)) x (.ins c.moves dx (putF "moves" (.ref l) [])) = H1 at hl hx1 o1 ⊢
    refine into_fld ⟨_, rfl, _, rfl, x, _, dx, _, rfl, hx1, R.Moves.cl, R.n_way, (show (1 : Nat) < 1000 by decide), ?_⟩
    have hl2 : (upd H1 x (.ins c.moves dx (putF "way" way (putF "moves" (.ref l) [])))) l = some (.lst us) := by rw [upd_ne xl]; exact hl
    have hx2 : (upd H1 x (.ins c.moves dx (putF "way" way (putF "moves" (.ref l) [])))) x = some (.ins c.moves dx (putF "way" way (putF "moves" (.ref l) []))) := upd_same
    have o2 : Off x H (upd H1 x (.ins c.moves dx (putF "way" way (putF "moves" (.ref l) [])))) := fun q o z n => by rw [upd_ne n]; exact o1 _ _ z n
    generalize upd H1 x (.ins c.moves dx (putF "way" way (putF "moves" (.ref l) []))) = H2 at hl2 hx2 o2 ⊢
    have nb : b ≠ x := ne_of hb hx (by intro z; cases z)
    refine last_fld ⟨_, rfl, b, _, rfl, .inl (SqL.of (o2 _ _ hb nb)), fun l2 nl2 => ⟨_, rfl, x, _, dx, _, rfl, made' nl2 _ _ hx2, R.Moves.cl, R.n_readers, (show (2 : Nat) < 1000 by decide), ?_⟩⟩
    have pl2 : l2 ≠ x := fun z => by rw [z, hx2] at nl2; cases nl2
    have f2 : H l2 = none := by
      cases hq : H l2 with
      | none => rfl
      | some u => have := o2 _ _ hq pl2; rw [nl2] at this; cases this
    refine k _ dx l l2 (fun q o z n => ?_) upd_same ?_ ?_ nl f2
    · rw [upd_ne n]; exact made' nl2 _ _ (o2 _ _ z n)
    · rw [upd_ne xl]; exact made' nl2 _ _ hl2
    · rw [upd_ne pl2, upd_same]
abbrev sShows : Stmt := inClass (top 13) 2
abbrev nShows : List Str := ["self", "deal", "bounds", "behind", "loads", "needs", "reader"]
theorem scShows : FnScope nShows ["self", "deal", "bounds"] (defScope sShows) := ⟨rfl, rfl, rfl, by decide +kernel, rfl, by decide +kernel, by decide +kernel⟩
theorem ok_shows {f fA fO fW fL fN : Addr} {fd fdA fdO fdW fdL fdN : FuncData} (F : Fun K "shows" "Moves.shows" sShows f fd) (T : TxD mg) (R : TxE P K mg c)
    (A_check_asked : At K mg "check_asked" fA) (G_check_asked : FnOk P w K mg base (L2.CX P w) 5 fA fdA ["deal", "bounds"] (spAskedD K c)) (b_check_asked : Binds K fdA ["deal", "bounds"] [])
    (A_moved_once : At K mg "moved_once" fO) (G_moved_once : FnOk P w K mg base CX0 2 fO fdO ["deal", "moves"] spOnce) (b_moved_once : Binds K fdO ["deal", "moves"] [])
    (A_is_within : At K mg "is_within" fW) (G_is_within : FnOk P w K mg base CX0 4 fW fdW ["deal", "bounds"] spWithin) (b_is_within : Binds K fdW ["deal", "bounds"] [])
    (A_all_loads : At K mg "all_loads" fL) (G_all_loads : FnOk P w K mg base CX0 3 fL fdL ["deal", "bounds"] spAll) (b_all_loads : Binds K fdL ["deal", "bounds"] [])
    (A_needs_of : At K mg "needs_of" fN) (G_needs_of : FnOk P w K mg base CX0 2 fN fdN ["loads", "bounds", "way"] spNeedT) (b_needs_of : Binds K fdN ["loads", "bounds", "way"] []) : FnOk P w K mg base CX0 6 f fd ["self", "deal", "bounds"] (spShows c) := by
  refine F.ok scShows (fun vs H Q E h => ?_) (fun cdv A outer s H vs Q E hr h => ?_)
  · obtain ⟨x, p, bp, ds, bs, lo, hi, ys, way, rs, rfl, _⟩ := h
    rfl
  · obtain ⟨x, p, bp, ds, bs, lo, hi, ys, way, rs, rfl, ev, so, room, few, wz, k⟩ := h
    have nd := scShows.nd
    have hu := hr.units
    have hu1 : _ < cLine := hr.in1.units0
    have hr_check_asked : Room 5 _ := hr
    have hr_moved_once : Room 2 _ := hr.mono (by decide)
    have hr_is_within : Room 4 _ := hr.mono (by decide)
    have hr_all_loads : Room 3 _ := hr.mono (by decide)
    have hr_needs_of : Room 2 _ := hr.mono (by decide)
    refine ⟨_, (pss_cons (ps_expr (pe_call G_check_asked hr_check_asked (by rfl) A_check_asked.g A_check_asked.k b_check_asked .nil passL (pa_cons (pv 1) (pa_cons (pv 2) pa_nil))))
      (pss_cons (ps_set (i := 3) nd rfl (Or.inl rfl) (pe_call G_moved_once hr_moved_once (by rfl) A_moved_once.g A_moved_once.k b_moved_once .nil pass0 (pa_cons (pv 1) (pa_cons (pe_fld (pv 0) rfl) pa_nil))))
      (pss_cons (ps_if (PW.pt (pw_or (pt_cmpR op_isN (pv 3) pe_non (nomark _)) (pw_or (pt_not (pt_val (pe_call G_is_within hr_is_within (by rfl) A_is_within.g A_is_within.k b_is_within .nil pass0 (pa_cons (pv 3) (pa_cons (pv 2) pa_nil))))) (pw_or1 (pt_cmpR op_notIn_seq (pe_fld (pv 0) rfl) (pe_glob (v := .ref c.ways) (by rfl) R.g_WAYS rfl) rfl)))))
        (pss_one (ps_ret pe_bl))
        pss_nil)
      (pss_cons (ps_set (i := 4) nd rfl (Or.inr rfl) (pe_call G_all_loads hr_all_loads (by rfl) A_all_loads.g A_all_loads.k b_all_loads .nil pass0 (pa_cons (pv 1) (pa_cons (pv 2) pa_nil))))
      (pss_cons (ps_if (PW.pt (pw_or (pt_cmpR op_ne (pe_callB MX.call_lenQ (by rfl) T.len PySem.boot_len (pa_cons (pe_callTy (MX.cr_setQ rfl hu) (by rfl) T.set (by decide +kernel) (pa_cons (pe_fld (pv 0) rfl) pa_nil)) pa_nil)) (pe_callB call_len_seq (by rfl) T.len PySem.boot_len (pa_cons (pe_fld (pv 0) rfl) pa_nil)) (nomark _)) (pw_or1 (pt_not (pt_val (pe_callB (cr_all rfl) (by rfl) T.all (by decide +kernel) (pa_cons (pe_lc (own := [("reader", 6)]) (by rfl) nd (pi_list (pe_fld (pv 0) rfl)) (blkOk_by (N := nShows) (sc := defScope sShows) (by decide +kernel)) (fun _ _ _ _ _ => (pg_name (i := 6) nd rfl (Or.inl rfl))) (fun _ _ _ _ _ => pts_nil) (fun _ _ _ _ _ => (pe_cmp (pc_din hu1 (pv 6) (pv 4)) rfl))) pa_nil)))))))
        (pss_one (ps_ret pe_bl))
        pss_nil)
      (pss_cons (ps_set (i := 5) nd rfl (Or.inr rfl) (pe_call G_needs_of hr_needs_of (by rfl) A_needs_of.g A_needs_of.k b_needs_of .nil pass0 (pa_cons (pv 4) (pa_cons (pv 2) (pa_cons (pe_fld (pv 0) rfl) pa_nil)))))
      (pss_one (ps_ret (pe_cmpR op_eq (pe_callB (cr_sum rfl) (by rfl) T.sum (by decide +kernel) (pa_cons (pe_lc (own := [("reader", 6)]) (by rfl) nd (pi_list (pe_fld (pv 0) rfl)) (blkOk_by (N := nShows) (sc := defScope sShows) (by decide +kernel)) (fun _ _ _ _ _ => (pg_name (i := 6) nd rfl (Or.inl rfl))) (fun _ _ _ _ _ => pts_nil) (fun _ _ _ _ _ => (pe_dget hu1 (pv 5) (pv 6) (fun _ _ => rfl)))) pa_nil)) (pe_callB call_len_seq (by rfl) T.len PySem.boot_len (pa_cons (pe_fld (pv 0) rfl) pa_nil)) (nomark _)))))))))), ?_⟩
    refine into ⟨_, rfl, _, rfl, .ref p, .ref bp, rfl, .inr (.inr ⟨p, bp, ds, bs, lo, hi, rfl, rfl, so, fun _ H1 e1 => ?_, fun q => absurd room q⟩)⟩
    obtain ⟨dx, a, b, hx, hm, hb⟩ := (ev.same e1).at_
    have so1 := so.same e1
    refine into ⟨_, rfl, _, rfl, x, _, dx, _, _, rfl, hx, R.Moves.cl, R.n_moves, mF_moves, p, a, ds, ys, rfl, so1.deal, hm, fun b' eo H2 B e2 nB hB => ?_, fun eo H2 e2 => ?_⟩
    · have e02 := e1.trans e2
      have dB : DealAt H2 B b' := ⟨hB, by rw [once_lanes ds ys _ _ eo]; exact so.deal.once, by
        have := congrArg List.length (once_lanes ds ys _ _ eo)
        rw [List.length_map, List.length_map] at this
        have := so.deal.few
        omega⟩
      refine into ⟨_, rfl, rfl, _, rfl, iteF' (fun z => by cases of_decide_eq_true z) ?_⟩
      refine ⟨_, rfl, _, rfl, B, bp, b', bs, lo, hi, rfl, dB, so.bds.same e02, fun H3 v e3 hv => ⟨_, rfl, ?_⟩⟩
      have e03 := e02.trans e3
      cases v with
      | false => exact iteT (iteT (k _ false e03 ⟨fun z => (by cases z), fun ⟨b2, z1, z2, _⟩ => by rw [eo] at z1; cases z1; exact absurd (hv.mpr z2) Bool.false_ne_true⟩))
      | true =>
        have inn := hv.mp rfl
        have hx3 := e3 _ _ (e2 _ _ hx)
        refine iteF ⟨_, rfl, x, _, dx, _, _, rfl, hx3, R.Moves.cl, R.n_way, mF_way, c.ways, _, rfl, .inr (.inr R.waysK), rfl, rfl, _, rfl, ?_⟩
        by_cases cw : way = "leaving" ∨ way = "coming"
        · refine iteF' (by rw [if_pos rfl, in_two, decide_eq_true cw]; exact Bool.false_ne_true) ?_
          unfold tNext
          dsimp only
          refine into ⟨_, rfl, _, rfl, p, bp, ds, bs, lo, hi, rfl, so.deal.same e03, so.bds.same e03, fun H4 L e4 nL hL => ?_⟩
          have e04 := e03.trans e4
          have hx4 := e4 _ _ hx3
          have hb4 := e4 _ _ (e3 _ _ (e2 _ _ hb))
          have hm4 := ((hm.same e2).same e3).same e4
          refine into ⟨_, rfl, x, _, dx, _, _, rfl, hx4, R.Moves.cl, R.n_readers, mF_readers, b, rs.map Sum.inr, rfl, .inl (SqL.of (by rw [List.map_map]; exact hb4)), by rw [List.length_map]; omega, fun S f n nS memb le => ⟨S, f, n, rfl, upd_same, fun Lk ndk memk lenk => ?_⟩⟩
          generalize hG : upd H4 S _ = H5
          have e5 : Same H4 H5 := hG ▸ made' nS
          have e05 : Same H _ := e04.trans e5
          have hx5 := e5 _ _ hx4
          have hb5 := e5 _ _ hb4
          have hm5 := hm4.same e5
          have hL5 := e5 _ _ hL
          have cnt_ : (n : Int) = (rs.length : Int) ↔ rs.Nodup := by
            have z := count_nodup (ks := rs.map (Sum.inr : Str → Key)) ndk fun k => (memk k).trans (memb k)
            rw [lenk, List.length_map] at z
            constructor
            · intro q
              have := z.mp (by omega)
              exact List.Pairwise.of_map _ (fun a b ne e => ne (by rw [e])) this
            · intro q
              have := z.mpr (List.Pairwise.map _ (fun a b ne e => ne (Sum.inr.inj e)) q)
              omega
          refine ⟨_, rfl, x, _, dx, _, _, rfl, hx5, R.Moves.cl, R.n_readers, mF_readers, b, _, rfl, .inl (SqL.of hb5), rfl, _, rfl, ?_⟩
          rw [List.length_map]
          by_cases cn : rs.Nodup
          · refine iteF' (by have := cnt_.mpr cn; simp; omega) ?_
            refine ⟨_, rfl, x, _, dx, _, _, rfl, hx5, R.Moves.cl, R.n_readers, mF_readers, b, rfl, ⟨_, SqL.of hb5⟩, fun D hD => lc_list (K := K) (a := b) (xs := rs.map V.str) (fun i H' => H' D = some (.lst (((rs.take i).map fun r => decide (r ∈ alls ds bs)).map V.bl)) ∧ Same H5 H') ⟨upd_same, made' hD⟩ (fun i H' _ ⟨_, e⟩ => SqL.of (e _ _ hb5)) ?_ ?_⟩
            · rintro i y H6 hy ⟨h2, e⟩
              obtain ⟨r, hr', rfl⟩ := str_at hy
              have lt : i < rs.length := (List.getElem?_eq_some_iff.mp hr').1
              refine ⟨rfl, _, rfl, _, rfl, L, _, rfl, DGet.k (k := .inr r) (e _ _ hL5), ?_⟩
              rw [some_tab]
              refine ⟨_, h2, by rw [List.length_map, List.length_map, List.length_take, sizeLine_eq]; omega, ?_, put_in e hD⟩
              rw [upd_same, take_snoc hr', List.map_append, List.map_append]; rfl
            · rintro H6 ⟨h2, e6⟩
              rw [List.length_map, List.take_length] at h2
              refine ⟨D, _, rfl, SqL.of h2, _, rfl, ?_⟩
              have all_ : ((rs.map fun r => decide (r ∈ alls ds bs)).all id = true) ↔ ∀ r ∈ rs, r ∈ alls ds bs := by
                rw [List.all_map, List.all_eq_true]
                exact ⟨fun z r hr => of_decide_eq_true (z r hr), fun z r hr => decide_eq_true (z r hr)⟩
              have e06 := e05.trans e6
              cases ca : (rs.map fun r => decide (r ∈ alls ds bs)).all id with
              | false => exact iteT (k _ false e06 ⟨fun z => (by cases z), fun ⟨b2, _, _, _, _, z, _⟩ => by rw [all_.mpr z] at ca; cases ca⟩)
              | true =>
                have mem := all_.mp ca
                have hx6 := e6 _ _ hx5
                have hb6 := e6 _ _ hb5
                have hL6 := e6 _ _ hL5
                have hm6 := hm5.same e6
                have bok := e06 _ _ so.bds.at_.choose_spec.1
                have nLb : L ≠ bp := fun q => by
                  obtain ⟨bk, z, _⟩ := (so.bds.same e03).at_
                  rw [← q, nL] at z; cases z
                have dfew := so.deal.few
                have bfew := so.bds.few
                have al := alls_len ds bs
                refine iteF ?_
                dsimp only
                refine into ⟨_, rfl, _, rfl, _, rfl, x, _, dx, _, _, rfl, hx6, R.Moves.cl, R.n_way, mF_way, L, bp, way, alls ds bs, bs, fun n => cnt n ds, lo, hi, rfl, hL6, so.bds.same e06, nLb, alls_nodup so.bds.once, by omega, fun H7 N e7 nN hN => ?_⟩
                have e07 := e06.trans e7
                have hx7 := e7 _ _ hx6
                have hb7 := e7 _ _ hb6
                obtain ⟨ts, t1, t2, _⟩ := (hm6.same e7).at_
                refine ⟨_, rfl, x, _, dx, _, _, rfl, hx7, R.Moves.cl, R.n_readers, mF_readers, b, rfl, ⟨_, SqL.of hb7⟩, fun D2 hD2 => lc_list (K := K) (a := b) (xs := rs.map V.str) (fun i H' => H' D2 = some (.lst (((rs.take i).map (needT (fun n => cnt n ds) lo hi way)).map V.int)) ∧ Same H7 H') ⟨upd_same, made' hD2⟩ (fun i H' _ ⟨_, e⟩ => SqL.of (e _ _ hb7)) ?_ ?_⟩
                · rintro i y H8 hy ⟨h2, e⟩
                  obtain ⟨r, hr', rfl⟩ := str_at hy
                  have lt : i < rs.length := (List.getElem?_eq_some_iff.mp hr').1
                  refine ⟨rfl, _, rfl, _, rfl, N, _, rfl, getK (k := .inr r) (.inl (e _ _ hN)) (val_in (mem r (List.mem_of_getElem? hr'))), ?_⟩
                  refine ⟨_, h2, by rw [List.length_map, List.length_map, List.length_take, sizeLine_eq]; omega, ?_, put_in e hD2⟩
                  rw [upd_same, take_snoc hr', List.map_append, List.map_append]; rfl
                · rintro H8 ⟨h2, e8⟩
                  rw [List.length_map, List.take_length] at h2
                  refine ⟨D2, rs.map (needT (fun n => cnt n ds) lo hi way), rfl, SqL.of h2, _, rfl, x, _, dx, _, _, rfl, e8 _ _ hx7, R.Moves.cl, R.n_moves, mF_moves, a, _, rfl, .inl (SqL.of (e8 _ _ t1)), rfl, ?_⟩
                  rw [sum_map, List.length_map, t2]
                  refine k _ _ (e07.trans e8) ?_
                  rw [decide_eq_true_iff]
                  constructor
                  · intro z
                    exact ⟨b', eo, inn, cw, cn, mem, V.int.inj z⟩
                  · rintro ⟨b2, _, _, _, _, _, z⟩
                    rw [z]
          · exact iteT' (by have : ¬ (n : Int) = rs.length := fun z => cn (cnt_.mp z); simp; omega) (iteT (k _ false e05 ⟨fun z => (by cases z), fun ⟨b2, _, _, _, z, _⟩ => absurd z cn⟩))
        · refine iteT' (by rw [if_pos rfl, in_two, decide_eq_false cw]; rfl) (k _ false e03 ⟨fun z => (by cases z), fun ⟨b2, _, _, z, _⟩ => absurd z cw⟩)
    · refine into ⟨_, rfl, rfl, _, rfl, iteT' (decide_eq_true rfl) (iteT (k _ false (e1.trans e2) ⟨fun z => (by cases z), fun ⟨b2, z, _⟩ => by rw [eo] at z; cases z⟩))⟩
end
end KD
end
section
/-! Sums over all names. -/
namespace DM
variable {σ τ : Type} [DecidableEq σ]
theorem sumF_filter {f : σ → Int} {p : σ → Bool} : ∀ ns : List σ, (∀ n ∈ ns, p n = false → f n = 0) → sumF f ns = sumF f (ns.filter p)
  | [], _ => rfl
  | n :: ns, h => by
    have ih := sumF_filter ns fun m hm => h m (List.mem_cons_of_mem _ hm)
    rw [List.filter_cons]
    cases q : p n with
    | true =>
      rw [if_pos rfl]
      show f n + sumF f ns = f n + _
      rw [ih]
    | false =>
      rw [if_neg Bool.false_ne_true]
      show f n + sumF f ns = _
      rw [h n List.mem_cons_self q, ih]; omega
/-- two rows of names without one twice, that differ only where nothing is told -/
theorem sumF_same {f : σ → Int} {ns ms : List σ} (dn : ns.Nodup) (dm : ms.Nodup) (h1 : ∀ n ∈ ns, n ∉ ms → f n = 0) (h2 : ∀ n ∈ ms, n ∉ ns → f n = 0) : sumF f ns = sumF f ms := by
  rw [sumF_filter (p := fun n => decide (n ∈ ms)) ns fun n hn q => h1 n hn (of_decide_eq_false q), sumF_filter (p := fun n => decide (n ∈ ns)) ms fun n hn q => h2 n hn (of_decide_eq_false q)]
  refine sumF_perm ((List.perm_ext_iff_of_nodup (dn.filter _) (dm.filter _)).mpr fun a => ?_)
  rw [List.mem_filter, List.mem_filter, decide_eq_true_iff, decide_eq_true_iff]
  exact And.comm
theorem sum_cnt {ns : List σ} (d : ns.Nodup) : ∀ xs : List (τ × σ), (∀ x ∈ xs, x.2 ∈ ns) → sumF (fun n => cnt n xs) ns = xs.length
  | [], _ => by
    have : ∀ ms : List σ, sumF (fun n => cnt n ([] : List (τ × σ))) ms = 0 := fun ms => by
      induction ms with
      | nil => rfl
      | cons m ms ih => unfold sumF; rw [ih]; rfl
    rw [this]; rfl
  | x :: xs, h => by
    have ih := sum_cnt d xs fun y hy => h y (List.mem_cons_of_mem _ hy)
    have e := sumF_at (f := fun n => cnt n (x :: xs)) (g := fun n => cnt n xs) (r := x.2) ns d (h x List.mem_cons_self) fun n ne => by
      rw [cnt_cons, if_neg fun k : x.2 = n => ne k.symm, Int.zero_add]
    rw [e, ih, cnt_cons, if_pos rfl, List.length_cons]
    omega
end DM
end
section
/-! Deals: as few moves as can be. -/
namespace KD
open PySem L2 DM
/-- the numbers of lanes that are nearest -/
structure Near (ds : List (Str × Str)) (bs : List Str) (lo hi f : Str → Int) : Prop where
  near_ : near ((ds.length : Int) - sumF (fun n => (Deal.rd ⟨fun n => cnt n ds, lo, hi⟩ n).c) (alls ds bs)) ((alls ds bs).map (Deal.rd ⟨fun n => cnt n ds, lo, hi⟩)) = (alls ds bs).map f
theorem outside {H : Hp} {bp : Addr} {bs : List Str} {lo hi : Str → Int} (h : Bds H bp bs lo hi) {n : Str} (no : n ∉ bs) : lo n = 0 ∧ hi n = 0 := by
  obtain ⟨bk, _, keys, bnd⟩ := h.at_
  rcases bnd n with ⟨_, b2, b3⟩ | ⟨a, b1, _⟩
  · exact ⟨b2, b3⟩
  · unfold valV at b1
    cases e : bk.find? fun kv => decide (kv.1 = .inr n) with
    | none => rw [e] at b1; cases b1
    | some kv =>
      have m := List.mem_of_find?_eq_some e
      have q := of_decide_eq_true (List.find?_some (p := fun kv : Key × V => decide (kv.1 = .inr n)) e)
      have : kv.1 ∈ bk.map (·.1) := List.mem_map.mpr ⟨kv, m, rfl⟩
      rw [keys, q] at this
      obtain ⟨n', hn, e'⟩ := List.mem_map.mp this
      exact absurd (Sum.inr.inj e' ▸ hn) no
theorem sum_alls {H : Hp} {bp : Addr} {bs : List Str} {lo hi : Str → Int} (h : Bds H bp bs lo hi) (ds : List (Str × Str)) : sumF lo (alls ds bs) = sumF lo bs ∧ sumF hi (alls ds bs) = sumF hi bs :=
  ⟨sumF_same (alls_nodup h.once) h.once (fun n _ no => (outside h no).1) fun n hn no => absurd (mem_alls.mpr (.inr hn)) no, sumF_same (alls_nodup h.once) h.once (fun n _ no => (outside h no).2) fun n hn no => absurd (mem_alls.mpr (.inr hn)) no⟩
theorem sum_deal {bs : List Str} (d : bs.Nodup) (ds : List (Str × Str)) : sumF (fun n => cnt n ds) (alls ds bs) = ds.length := sum_cnt (alls_nodup d) ds fun x hx => mem_alls.mpr (.inl ((mem_rdrs _ _).mpr ⟨x, hx, rfl⟩))
theorem Near.ok {H : Hp} {bp : Addr} {ds : List (Str × Str)} {bs : List Str} {lo hi f : Str → Int} (h : Bds H bp bs lo hi) (room : RoomIs bs lo hi ds.length) (q : Near ds bs lo hi f) :
    (∀ n ∈ alls ds bs, lo n ≤ f n ∧ f n ≤ hi n) ∧ sumF f (alls ds bs) = sumF (fun n => cnt n ds) (alls ds bs) := by
  have okB : ∀ r ∈ (alls ds bs).map (Deal.rd ⟨fun n => cnt n ds, lo, hi⟩), r.Ok := fun r hr => by
    obtain ⟨n, _, rfl⟩ := List.mem_map.mp hr
    exact (h.ok n).2.1
  have sl := sum_alls h ds
  have sd := sum_deal h.once ds
  have e1 : sumB Rd.l ((alls ds bs).map (Deal.rd ⟨fun n => cnt n ds, lo, hi⟩)) = ds.length := (sumB_map ⟨fun n => cnt n ds, lo, hi⟩ Rd.l (alls ds bs)).trans sd
  have e2 : sumB Rd.lo ((alls ds bs).map (Deal.rd ⟨fun n => cnt n ds, lo, hi⟩)) = sumF lo bs := (sumB_map ⟨fun n => cnt n ds, lo, hi⟩ Rd.lo (alls ds bs)).trans sl.1
  have e3 : sumB Rd.hi ((alls ds bs).map (Deal.rd ⟨fun n => cnt n ds, lo, hi⟩)) = sumF hi bs := (sumB_map ⟨fun n => cnt n ds, lo, hi⟩ Rd.hi (alls ds bs)).trans sl.2
  have e4 : sumB Rd.c ((alls ds bs).map (Deal.rd ⟨fun n => cnt n ds, lo, hi⟩)) = sumF (fun n => (Deal.rd ⟨fun n => cnt n ds, lo, hi⟩ n).c) (alls ds bs) := sumB_map ⟨fun n => cnt n ds, lo, hi⟩ Rd.c (alls ds bs)
  have best := near_best okB (by rw [e1, e2]; exact room.1) (by rw [e1, e3]; exact room.2)
  rw [e1, e4, q.near_] at best
  refine ⟨(in_map ⟨fun n => cnt n ds, lo, hi⟩ f _).mp best.1, ?_⟩
  rw [sd, ← sum_map]; exact best.2.1
/-- what is told -/
def LeastIs (ds : List (Str × Str)) (bs : List Str) (lo hi : Str → Int) (ys : List (Str × Str × Str)) (way : Str) (rs : List Str) : Prop :=
  ∃ f, Near ds bs lo hi f ∧ ys = mv (fun n => cnt n ds - f n) (wants f (fun n => cnt n ds) (alls ds bs)) ds ∧ way = (if sumF (needT (fun n => cnt n ds) lo hi "leaving") (alls ds bs) = ys.length then "leaving" else "coming") ∧
    rs = (alls ds bs).filter fun n => decide (0 < needT (fun n => cnt n ds) lo hi way n)
def spLeast (K : PySem.W.Frag) (c : Cs) : Sp := fun vs H Q E => ∃ v u : V, vs = [v, u] ∧ ((DealIs K H v false ∧ ∀ H', Same H H' → E (.ref c.bad) none H') ∨ (DealIs K H v true ∧ BoundsIs K H u false ∧ ∀ H', Same H H' → E (.ref c.bnd) none H') ∨
  ∃ (p bp : Addr) (ds : List (Str × Str)) (bs : List Str) (lo hi : Str → Int), v = .ref p ∧ u = .ref bp ∧ Sound H p bp ds bs lo hi ∧ (RoomIs bs lo hi ds.length → ∀ H' X ys way rs, Same H H' → H X = none → EvAt c H' X ys way rs → LeastIs ds bs lo hi ys way rs → Q (.ref X) H') ∧
    (¬ RoomIs bs lo hi ds.length → ∀ H' d, Same H H' → H' d = none → E (.ref c.no) (some d) (upd H' d (.xd [(("tick" : Str), .int 0)]))))
/-- the names of a table at which something holds -/
theorem filts {σ : L2.St} {H : Hp} {N : Addr} {ns : List Str} {g : Str → Int} {p : Str → Bool} {Q : VK} {tt : TT} {te : TE} {own : List Nat} {s0 s3 : Nat} (h0 : σ[s0]? = some (some (.ref N))) (hN : H N = some (.dK (tab g ns))) (few : ns.length ≤ 72)
    (elt : ∀ n H' (Qt : V → Hp → Prop) (Qf : Hp → Prop), n ∈ ns → Rd H' N (.dK (tab g ns)) → (p n = true → Qt (.str n) H') → (p n = false → Qf H') → gName s3 (.str n) (wipe σ own) H' fun σ2 H2 => wipe σ2 own = wipe σ own ∧ tt σ2 H2 fun b H3 => if b = true then te σ2 H3 Qt else Qf H3)
    (k : ∀ H' D, Same H H' → H' D = some (.lst ((ns.filter p).map V.str)) → Q (.ref D) H') : tLockE (tLc (iKeys (tVar s0)) (gName s3) tt te own) σ H Q := by
  refine ⟨N, _, hN, trivial, fun od => ⟨_, h0, N, od, rfl, .inl ⟨_, upd_same, fun D nD => ?_⟩⟩⟩
  have naD : N ≠ D := fun q => by rw [← q, upd_same] at nD; cases nD
  have nD1 : H D = none := by rw [upd_ne naD.symm] at nD; exact nD
  refine lc_it walk_keys (fun i H' => H' N = some (.frz od (.dK (tab g ns))) ∧ H' D = some (.lst (((ns.take i).filter p).map V.str)) ∧ ∀ b o, H b = some o → b ≠ N → H' b = some o) ⟨by rw [upd_ne naD, upd_same], by rw [upd_same, List.take_zero]; rfl, fun b o z n => by rw [upd_ne (ne_of_none z nD1), upd_ne n]; exact z⟩ (fun i H' _ z => z.1) ?_ ?_
  · rintro i x H3 H4 hi' ⟨z1, z2, z3⟩ ⟨rfl, k', v, hx, rfl⟩
    obtain ⟨n, hn, rfl, rfl⟩ := tab_get hx
    have len : ((ns.take i).filter p).length ≤ 72 := Nat.le_trans (List.length_filter_le _ _) (by rw [List.length_take]; omega)
    refine elt n H4 _ _ (List.mem_of_getElem? hn) (.inr ⟨od, z1⟩) (fun q => ⟨_, z2, by rw [List.length_map, sizeLine_eq]; omega, by rw [upd_ne naD]; exact z1, ?_, fun b o z ne => by rw [upd_ne (ne_of_none z nD1)]; exact z3 b o z ne⟩) (fun q => ⟨z1, ?_, z3⟩)
    · rw [upd_same, take_snoc hn, List.filter_append, List.map_append, List.filter_cons, if_pos q]; rfl
    · rw [z2, take_snoc hn, List.filter_append, List.filter_cons, if_neg (by rw [q]; exact Bool.false_ne_true), List.filter_nil, List.append_nil]
  · rintro H3 ⟨z1, z2, z3⟩
    rw [tab_len, List.take_length] at z2
    exact ⟨z1, k _ D (same_back hN z3) (by rw [upd_ne naD.symm]; exact z2)⟩
theorem same_new {C x dx : Addr} {H H' : Hp} (nx : H x = none) (nd : H dx = none) (o : Off x (upd (upd H dx (.own x)) x (.ins C dx [])) H') : Same H H' := fun b u z => by
  have n1 := ne_of_none z nx
  refine o b u ?_ n1
  rw [upd_ne n1, upd_ne (ne_of_none z nd)]; exact z
section
variable {P : Program} {w : World} {K : PySem.W.Frag} {mg : Str → Option Value} {base : Heap} {c : Cs}
abbrev sLeast : Stmt := top 15
abbrev nLeast : List Str := ["deal", "bounds", "loads", "moves", "leaving", "coming", "way", "reader"]
theorem scLeast : FnScope nLeast ["deal", "bounds"] (defScope sLeast) := ⟨rfl, rfl, rfl, by decide +kernel, rfl, by decide +kernel, by decide +kernel⟩
theorem ok_least {f fA fL fM fN fD fI : Addr} {fd fdA fdL fdM fdN fdD fdI : FuncData} (F : Fun K "least_moves" "least_moves" sLeast f fd) (T : TxD mg) (R : TxE P K mg c)
    (A_check_asked : At K mg "check_asked" fA) (G_check_asked : FnOk P w K mg base (L2.CX P w) 5 fA fdA ["deal", "bounds"] (spAskedD K c)) (b_check_asked : Binds K fdA ["deal", "bounds"] [])
    (A_all_loads : At K mg "all_loads" fL) (G_all_loads : FnOk P w K mg base CX0 3 fL fdL ["deal", "bounds"] spAll) (b_all_loads : Binds K fdL ["deal", "bounds"] [])
    (A_moves_between : At K mg "moves_between" fM) (G_moves_between : FnOk P w K mg base CX0 3 fM fdM ["deal", "loads"] spMoves) (b_moves_between : Binds K fdM ["deal", "loads"] [])
    (A_nearest_loads : At K mg "nearest_loads" fN) (G_nearest_loads : FnOk P w K mg base CX0 2 fN fdN ["loads", "bounds", "many"] spNearest) (b_nearest_loads : Binds K fdN ["loads", "bounds", "many"] [])
    (A_needs_of : At K mg "needs_of" fD) (G_needs_of : FnOk P w K mg base CX0 2 fD fdD ["loads", "bounds", "way"] spNeedT) (b_needs_of : Binds K fdD ["loads", "bounds", "way"] [])
    (M_Moves : Mk K c.moves fI) (G_Moves : FnOk P w K mg base CX0 1 fI fdI ["self", "moves", "way", "readers"] (spMI c)) (b_Moves : Binds K fdI ["self", "moves", "way", "readers"] []) : FnOk P w K mg base (L2.CX P w) 6 f fd ["deal", "bounds"] (spLeast K c) := by
  refine F.okX scLeast (fun vs H Q E h => ?_) (fun cdv A outer s H vs Q E hr h => ?_)
  · obtain ⟨v, u, rfl, _⟩ := h
    rfl
  · obtain ⟨v, u, rfl, is⟩ := h
    have nd := scLeast.nd
    have hu1 : _ < cLine := hr.in1.units0
    have hr_check_asked : Room 5 _ := hr
    have hr_all_loads : Room 3 _ := hr.mono (by decide)
    have hr_moves_between : Room 3 _ := hr.mono (by decide)
    have hr_nearest_loads : Room 2 _ := hr.mono (by decide)
    have hr_needs_of : Room 2 _ := hr.mono (by decide)
    have hr_Moves : Room 2 _ := hr.mono (by decide)
    refine ⟨_, (pss_cons (ps_expr (pe_callS G_check_asked hr_check_asked (by rfl) A_check_asked.g A_check_asked.k b_check_asked (E := fun _ => E) (fun σ => passAt (takes_of rfl rfl rfl rfl) σ) (pa_cons (pv 0) (pa_cons (pv 1) pa_nil))))
      (pss_cons (ps_set (i := 2) nd rfl (Or.inr rfl) (pe_call G_all_loads hr_all_loads (by rfl) A_all_loads.g A_all_loads.k b_all_loads .nil pass0 (pa_cons (pv 0) (pa_cons (pv 1) pa_nil))))
      (pss_cons (ps_set (i := 3) nd rfl (Or.inl rfl) (pe_call G_moves_between hr_moves_between (by rfl) A_moves_between.g A_moves_between.k b_moves_between .nil pass0 (pa_cons (pv 0) (pa_cons (pe_call G_nearest_loads hr_nearest_loads (by rfl) A_nearest_loads.g A_nearest_loads.k b_nearest_loads .nil pass0 (pa_cons (pv 2) (pa_cons (pv 1) (pa_cons (pe_callB call_lenD (by rfl) T.len PySem.boot_len (pa_cons (pv 0) pa_nil)) pa_nil)))) pa_nil))))
      (pss_cons (ps_asg (pe_lc (own := [("way", 6)]) (by rfl) nd (pi_tup (pe_glob (v := .ref c.ways) (by rfl) R.g_WAYS rfl)) (blkOk_by (N := nLeast) (sc := defScope sLeast) (by decide +kernel)) (fun _ _ _ _ _ => (pg_name (i := 6) nd rfl (Or.inl rfl))) (fun _ _ _ _ _ => pts_nil) (fun _ _ _ _ _ => (pe_call G_needs_of hr_needs_of (by rfl) A_needs_of.g A_needs_of.k b_needs_of .nil pass0 (pa_cons (pv 2) (pa_cons (pv 1) (pa_cons (pv 6) pa_nil)))))) (pg_lst rfl (pgs_cons (pg_name (i := 4) nd rfl (Or.inr rfl)) (pgs_cons (pg_name (i := 5) nd rfl (Or.inr rfl)) pgs_nil))))
      (pss_cons (ps_if (pt_cmpR op_eq (pe_callB (cr_sum rfl) (by rfl) T.sum (by decide +kernel) (pa_cons (DV.pe_listVals (by rfl) (by rfl) T.list (by decide +kernel) (pv 4)) pa_nil)) (pe_callB call_len_seq (by rfl) T.len PySem.boot_len (pa_cons (pv 3) pa_nil)) (nomark _))
        (pss_one (ps_ret (pe_make M_Moves G_Moves hr_Moves (by rfl) R.Moves.g b_Moves .nil pass0 (pa_cons (pv 3) (pa_cons pe_str (pa_cons (pe_lock (pe_lc (own := [("reader", 7)]) (by rfl) nd (pi_keys (pv 4)) (blkOk_by (N := nLeast) (sc := defScope sLeast) (by decide +kernel)) (fun _ _ _ _ _ => (pg_name (i := 7) nd rfl (Or.inl rfl))) (fun _ _ _ _ _ => pts_one (pt_cmpR op_gt (pe_dget hu1 (pv 4) (pv 7) (fun _ _ => rfl)) pe_int (nomark _))) (fun _ _ _ _ _ => (pv 7)))) pa_nil))))))
        pss_nil)
      (pss_one (ps_ret (pe_make M_Moves G_Moves hr_Moves (by rfl) R.Moves.g b_Moves .nil pass0 (pa_cons (pv 3) (pa_cons pe_str (pa_cons (pe_lock (pe_lc (own := [("reader", 7)]) (by rfl) nd (pi_keys (pv 5)) (blkOk_by (N := nLeast) (sc := defScope sLeast) (by decide +kernel)) (fun _ _ _ _ _ => (pg_name (i := 7) nd rfl (Or.inl rfl))) (fun _ _ _ _ _ => pts_one (pt_cmpR op_gt (pe_dget hu1 (pv 5) (pv 7) (fun _ _ => rfl)) pe_int (nomark _))) (fun _ _ _ _ _ => (pv 7)))) pa_nil))))))))))), ?_⟩
    rcases is with ⟨d1, k⟩ | ⟨d1, d2, k⟩ | ⟨p, bp, ds, bs, lo, hi, rfl, rfl, so, k1, k2⟩
    · exact into ⟨_, rfl, _, rfl, v, u, rfl, .inl ⟨d1, k⟩⟩
    · exact into ⟨_, rfl, _, rfl, v, u, rfl, .inr (.inl ⟨d1, d2, k⟩)⟩
    · refine into ⟨_, rfl, _, rfl, _, _, rfl, .inr (.inr ⟨p, bp, ds, bs, lo, hi, rfl, rfl, so, fun room H1 e1 => ?_, k2⟩)⟩
      have so1 := so.same e1
      refine into ⟨_, rfl, _, rfl, p, bp, ds, bs, lo, hi, rfl, so1.deal, so1.bds, fun H2 L e2 nL hL => ?_⟩
      have nLb : L ≠ bp := fun q => by
        obtain ⟨bk, z, _⟩ := so1.bds.at_
        rw [← q, nL] at z; cases z
      have nLp : p ≠ L := fun q => by have := so1.deal.at_; rw [q, nL] at this; cases this
      have so2 := so1.same e2
      have al := alls_len ds bs
      have dfew := so.deal.few
      have bfew := so.bds.few
      refine into ⟨_, rfl, _, rfl, _, rfl, _, rfl, p, _, rfl, so2.deal.at_, L, bp, alls ds bs, bs, fun n => cnt n ds, lo, hi, ds.length, by rw [show (dealV ds).length = ds.length from List.length_map _]; rfl, hL, so2.bds, nLb, alls_nodup so.bds.once, by omega, dfew, fun H3 N f e3 nN hnear hN => ?_⟩
      have so3 := so2.same e3
      have nr : Near ds bs lo hi f := ⟨hnear⟩
      have nok := nr.ok so.bds room
      have npN : p ≠ N := fun q => by have := so2.deal.at_; rw [q, nN] at this; cases this
      refine ⟨p, N, ds, alls ds bs, f, rfl, so3.deal, hN, npN, alls_nodup so.bds.once, by omega, fun d hd => mem_alls.mpr (.inl ((mem_rdrs _ _).mpr ⟨d, hd, rfl⟩)), fun n hn => ⟨Int.le_trans (so.bds.ok n).1 (nok.1 n hn).1, Int.le_trans (nok.1 n hn).2 (so.bds.ok n).2.2⟩, nok.2, fun H4 M e4 nM hM => ?_⟩
      have so4 := so3.same e4
      have hL4 := e4 _ _ (e3 _ _ hL)
      have e04 : Same H H4 := ((e1.trans e2).trans e3).trans e4
      clear hN npN nN hnear
      generalize hys : mv (fun n => cnt n ds - f n) (wants f (fun n => cnt n ds) (alls ds bs)) ds = ys at hM
      refine into ⟨c.ways, rfl, ⟨_, .inr R.waysK⟩, fun D nD => ?_⟩
      refine lc_it (walk_tup (xs := [V.str "leaving", .str "coming"])) (fun i H' => Same H4 H' ∧ ∃ as : List Addr, H' D = some (.lst (as.map V.ref)) ∧ as.length = i ∧ ∀ (j : Nat) (a : Addr) (y : Str), as[j]? = some a → [("leaving" : Str), "coming"][j]? = some y → H' a = some (.dK (tab (needT (fun n => cnt n ds) lo hi y) (alls ds bs)))) ⟨made' nD, [], upd_same, rfl, fun j a y h => by cases h⟩ (fun i H' _ _ => .inr R.waysK) ?_ ?_
      · rintro i x H5 H6 hi' ⟨e5, as, z1, z2, z3⟩ ⟨rfl, hx⟩
        obtain ⟨y, hy, rfl⟩ : ∃ y, [("leaving" : Str), "coming"][i]? = some y ∧ x = .str y := by
          match i, hx with
          | 0, hx => exact ⟨_, rfl, (Option.some.inj hx).symm⟩
          | 1, hx => exact ⟨_, rfl, (Option.some.inj hx).symm⟩
        refine ⟨rfl, _, rfl, _, rfl, _, rfl, L, bp, y, alls ds bs, bs, fun n => cnt n ds, lo, hi, rfl, e5 _ _ hL4, so4.bds.same e5, nLb, alls_nodup so.bds.once, by omega, fun H7 N e7 nN hN => ?_⟩
        have nND : N ≠ D := fun q => by rw [q, z1] at nN; cases nN
        have hD7 := e7 _ _ z1
        have i2 : i < 2 := hi'
        refine ⟨_, hD7, by rw [List.length_map, sizeLine_eq]; omega, put_in (e5.trans e7) nD, as ++ [N], by rw [upd_same, List.map_append]; rfl, by rw [List.length_append, z2]; rfl, fun j a y' ha hy' => ?_⟩
        rcases Nat.lt_trichotomy j as.length with lt | e | gt
        · rw [List.getElem?_append_left lt] at ha
          have z := e7 _ _ (z3 j a y' ha hy')
          rw [upd_ne fun q => by rw [q, hD7] at z; cases z]; exact z
        · subst e
          rw [List.getElem?_append_right (Nat.le_refl _), Nat.sub_self] at ha
          cases ha
          rw [z2, hy] at hy'
          cases hy'
          rw [upd_ne nND]; exact hN
        · rw [List.getElem?_append_right (by omega), show j - as.length = (j - as.length - 1) + 1 by omega] at ha
          cases ha
      · rintro H5 ⟨e5, as, z1, z2, z3⟩
        obtain ⟨a0, a1, rfl⟩ : ∃ a0 a1, as = [a0, a1] := by
          match as, z2 with
          | [a0, a1], _ => exact ⟨a0, a1, rfl⟩
        have h0 := z3 0 a0 "leaving" rfl rfl
        have h1 := z3 1 a1 "coming" rfl rfl
        refine ⟨D, _, rfl, SqL.of z1, rfl, _, _, rfl, _, _, rfl, rfl, ?_⟩
        have e05 := e04.trans e5
        have hM5 := hM.same e5
        have nX : ∀ x, H5 x = none → H x = none := fun x q => e05.free q
        clear z1 z2 z3 nD hL4 hL nL nLb nLp
        refine into ⟨_, rfl, a0, _, rfl, h0, fun S nS => ⟨S, (alls ds bs).map (needT (fun n => cnt n ds) lo hi "leaving"), rfl, SqL.of (by rw [upd_same, tab_vals]), ?_⟩⟩
        rw [sum_map]
        have e6 : Same H5 (upd H5 S (.lst ((tab (needT (fun n => cnt n ds) lo hi "leaving") (alls ds bs)).map (·.2)))) := made' nS
        have h06 := e6 _ _ h0
        have h16 := e6 _ _ h1
        have hM6 := hM5.same e6
        have e06 := e05.trans e6
        generalize upd H5 S (.lst ((tab (needT (fun n => cnt n ds) lo hi "leaving") (alls ds bs)).map (·.2))) = H6 at e06 h06 h16 hM6 ⊢
        obtain ⟨ts, t1, t2, t3⟩ := hM6.at_
        refine ⟨_, rfl, M, _, rfl, .inl (SqL.of t1), rfl, _, rfl, ?_⟩
        rw [List.length_map, t2]
        have fin : ∀ (way : Str) (H7 : Hp) (D2 : Addr), way = (if sumF (needT (fun n => cnt n ds) lo hi "leaving") (alls ds bs) = ys.length then "leaving" else "coming") → Same H6 H7 → H7 D2 = some (.lst (((alls ds bs).filter fun n => decide (0 < needT (fun n => cnt n ds) lo hi way n)).map V.str)) →
            ∀ x dx, H7 x = none → H7 dx = none → dx ≠ x → spMI c [.ref x, .ref M, .str way, .ref D2] (upd (upd H7 dx (.own x)) x (.ins c.moves dx [])) (fun v H' => v = .non ∧ Q (.ref x) H') E0 := fun way H7 D2 ew e7 hD2 x dx nx ndx ne => by
          have keep : ∀ b o, H7 b = some o → (upd (upd H7 dx (.own x)) x (.ins c.moves dx [])) b = some o := fun b o z => by rw [upd_ne (ne_of_none z nx), upd_ne (ne_of_none z ndx)]; exact z
          refine ⟨x, dx, M, D2, .str way, _, _, rfl, upd_same, keep _ _ (e7 _ _ t1), keep _ _ hD2, fun H8 dx' a' b' off hx ha hb na nb => ⟨rfl, ?_⟩⟩
          have s8 : Same H7 H8 := same_new nx ndx off
          refine k1 room H8 x ys way _ (e06.trans (e7.trans s8)) (e06.free (e7.free nx)) ⟨dx', a', b', hx, ⟨ts, ha, t2, fun i t y q1 q2 => s8 _ _ (e7 _ _ (t3 i t y q1 q2))⟩, hb⟩ ⟨f, nr, hys.symm, ew, rfl⟩
        by_cases c1 : sumF (needT (fun n => cnt n ds) lo hi "leaving") (alls ds bs) = ys.length
        · refine iteT' (decide_eq_true (by rw [c1])) ?_
          refine ⟨_, rfl, filts (p := fun n => decide (0 < needT (fun n => cnt n ds) lo hi "leaving" n)) rfl h06 (by omega) (fun n H' Qt Qf mem rd q1 q2 => ⟨rfl, _, rfl, _, rfl, a0, _, rfl, getK (k := .inr n) rd (val_in mem), _, _, rfl, rfl, _, rfl, ?_⟩) fun H7 D2 e7 hD2 => fin "leaving" H7 D2 (by rw [if_pos c1]) e7 hD2⟩
          cases cp : decide (0 < needT (fun n => cnt n ds) lo hi "leaving" n) with
          | true => exact iteT ⟨_, rfl, q1 cp⟩
          | false => exact iteF (q2 cp)
        · refine iteF' (fun z => c1 (V.int.inj (of_decide_eq_true z))) ?_
          refine ⟨_, rfl, filts (p := fun n => decide (0 < needT (fun n => cnt n ds) lo hi "coming" n)) rfl h16 (by omega) (fun n H' Qt Qf mem rd q1 q2 => ⟨rfl, _, rfl, _, rfl, a1, _, rfl, getK (k := .inr n) rd (val_in mem), _, _, rfl, rfl, _, rfl, ?_⟩) fun H7 D2 e7 hD2 => fin "coming" H7 D2 (by rw [if_neg c1]) e7 hD2⟩
          cases cp : decide (0 < needT (fun n => cnt n ds) lo hi "coming" n) with
          | true => exact iteT ⟨_, rfl, q1 cp⟩
          | false => exact iteF (q2 cp)
end
end KD
end
section
/-! The mathematics of the law: what is told shows, and is the least. -/
namespace KD
open PySem L2 DM
theorem putL_mid {pre xs : List (Str × Str)} {l r g : Str} (h1 : l ∉ pre.map (·.1)) (h2 : l ∉ xs.map (·.1)) : putL (pre ++ (l, r) :: xs) l g = pre ++ (l, g) :: xs := by
  unfold putL
  rw [List.map_append, List.map_cons, if_pos rfl]
  congr 1
  · refine (List.map_congr_left fun d hd => ?_).trans (List.map_id _)
    rw [if_neg fun e => h1 (List.mem_map.mpr ⟨d, hd, e⟩)]; rfl
  · congr 1
    refine (List.map_congr_left fun d hd => ?_).trans (List.map_id _)
    rw [if_neg fun e => h2 (List.mem_map.mpr ⟨d, hd, e⟩)]; rfl
theorem look_mid {pre xs : List (Str × Str)} {l r : Str} (h1 : l ∉ pre.map (·.1)) : look (pre ++ (l, r) :: xs) l = some r := by
  unfold look
  rw [List.find?_append]
  rw [show pre.find? (fun d => decide (d.1 = l)) = none from List.find?_eq_none.mpr fun d hd e => h1 (List.mem_map.mpr ⟨d, hd, of_decide_eq_true e⟩)]
  rw [List.find?_cons, decide_eq_true rfl]; rfl
/-- the moves of the program are moves, one behind the other -/
theorem once_mv {ds : List (Str × Str)} (nod : (ds.map (·.1)).Nodup) : ∀ (xs : List (Str × Str)) (pre pre' : List (Str × Str)) (sp : Str → Int) (w : List Str), ds = pre ++ xs → pre'.map (·.1) = pre.map (·.1) → (∀ g ∈ w, sp g ≤ 0) → once ds (mv sp w xs) (pre' ++ xs) = some (pre' ++ bh sp w xs)
  | [], pre, pre', sp, w, _, _, _ => by
    show some (pre' ++ []) = some (pre' ++ [])
    rfl
  | x :: xs, pre, pre', sp, w, e, el, hw => by
    have nod' := nod
    rw [e, List.map_append, List.map_cons] at nod'
    have h1 : x.1 ∉ pre.map (·.1) := fun h => (List.nodup_append.mp nod').2.2 _ h _ List.mem_cons_self rfl
    have h2 : x.1 ∉ xs.map (·.1) := (List.nodup_cons.mp (List.nodup_append.mp nod').2.1).1
    have next : ∀ (y : Str × Str) (sp' : Str → Int) (w' : List Str), y.1 = x.1 → (∀ g ∈ w', sp' g ≤ 0) → once ds (mv sp' w' xs) (pre' ++ y :: xs) = some (pre' ++ y :: bh sp' w' xs) := fun y sp' w' ey hw' => by
      have := once_mv nod xs (pre ++ [x]) (pre' ++ [y]) sp' w' (by rw [e, List.append_assoc]; rfl) (by rw [List.map_append, List.map_append, el]; show _ ++ [y.1] = _ ++ [x.1]; rw [ey]) hw'
      rw [List.append_assoc, List.append_assoc] at this
      exact this
    by_cases pos : 0 < sp x.2
    · cases w with
      | nil =>
        rw [show mv sp [] (x :: xs) = [] by conv => lhs; unfold mv; rw [if_pos pos]]
        rw [show bh sp [] (x :: xs) = x :: xs by conv => lhs; unfold bh; rw [if_pos pos]]
        rfl
      | cons g w' =>
        rw [show mv sp (g :: w') (x :: xs) = (x.1, x.2, g) :: mv (less sp x.2) w' xs by conv => lhs; unfold mv; rw [if_pos pos]]
        rw [show bh sp (g :: w') (x :: xs) = (x.1, g) :: bh (less sp x.2) w' xs by conv => lhs; unfold bh; rw [if_pos pos]]
        unfold once
        have ng : g ≠ x.2 := fun q => by
          have := hw g List.mem_cons_self
          rw [q] at this; omega
        rw [if_pos ⟨by rw [e]; exact look_mid h1, look_mid (by rw [el]; exact h1), ng⟩]
        rw [show putL (pre' ++ x :: xs) x.1 g = pre' ++ (x.1, g) :: xs from putL_mid (by rw [el]; exact h1) h2]
        refine next (x.1, g) _ _ rfl fun g' hg => ?_
        have := hw g' (List.mem_cons_of_mem _ hg)
        unfold less
        split <;> omega
    · rw [show mv sp w (x :: xs) = mv sp w xs by conv => lhs; unfold mv; rw [if_neg pos]]
      rw [show bh sp w (x :: xs) = x :: bh sp w xs by conv => lhs; unfold bh; rw [if_neg pos]]
      exact next x sp w rfl hw
theorem bh_names {ns : List Str} : ∀ (xs : List (Str × Str)) (sp : Str → Int) (w : List Str), (∀ x ∈ xs, x.2 ∈ ns) → (∀ g ∈ w, g ∈ ns) → ∀ d ∈ bh sp w xs, d.2 ∈ ns
  | [], _, _, _, _, d, hd => by cases hd
  | x :: xs, sp, w, hx, hw, d, hd => by
    have hx' : ∀ y ∈ xs, y.2 ∈ ns := fun y hy => hx y (List.mem_cons_of_mem _ hy)
    unfold bh at hd
    split at hd
    · cases w with
      | nil => exact hx d hd
      | cons g w' =>
        rcases List.mem_cons.mp hd with q | q
        · rw [q]; exact hw g List.mem_cons_self
        · exact bh_names xs _ _ hx' (fun g' h => hw g' (List.mem_cons_of_mem _ h)) d q
    · rcases List.mem_cons.mp hd with q | q
      · rw [q]; exact hx x List.mem_cons_self
      · exact bh_names xs _ _ hx' hw d q
theorem sumF_pos {f : Str → Int} (h : ∀ n, 0 ≤ f n) (ns : List Str) : sumF f (ns.filter fun n => decide (0 < f n)) = sumF f ns := (sumF_filter ns fun n _ q => by have := of_decide_eq_false q; have := h n; omega).symm
theorem need_0 (l lo hi : Str → Int) (way n : Str) : 0 ≤ needT l lo hi way n := by
  unfold needT
  split <;> omega
section
variable {H : Hp} {bp : Addr} {ds : List (Str × Str)} {bs : List Str} {lo hi : Str → Int} {ys : List (Str × Str × Str)} {way : Str} {rs : List Str}
/-- what least_moves tells: it shows, so many moves are the least, and more of it -/
structure Told (ds : List (Str × Str)) (bs : List Str) (lo hi : Str → Int) (ys : List (Str × Str × Str)) (way : Str) (rs : List Str) (f : Str → Int) (b : List (Str × Str)) : Prop where
  shows : Shows ds bs lo hi ys way rs
  once_ : once ds ys ds = some b
  inn : Inn b bs lo hi
  many : (ys.length : Int) = sumF (fun n => max 0 (cnt n ds - f n)) (alls ds bs)
  within : ∀ n ∈ alls ds bs, lo n ≤ f n ∧ f n ≤ hi n
  sum_ : sumF f (alls ds bs) = ds.length
  each : ∀ y ∈ ys, (y.1, y.2.1) ∈ ds ∧ y.2.2 ∈ alls ds bs
  subset : ∀ r ∈ rs, r ∈ alls ds bs
  out : ∀ n, n ∉ bs → lo n = 0 ∧ hi n = 0
  best : ∀ g : Str → Int, (∀ n ∈ alls ds bs, lo n ≤ g n ∧ g n ≤ hi n) → sumF g (alls ds bs) = ds.length → (ys.length : Int) ≤ sumF (fun n => max 0 (cnt n ds - g n)) (alls ds bs)
  goals : ∀ d ∈ b, d.2 ∈ alls ds bs
theorem told_of (h : Bds H bp bs lo hi) (nod : (ds.map (·.1)).Nodup) (room : RoomIs bs lo hi ds.length) (q : LeastIs ds bs lo hi ys way rs) : ∃ f b, Told ds bs lo hi ys way rs f b := by
  obtain ⟨f, nr, ey, ew, er⟩ := q
  have ok := nr.ok h room
  have dn := alls_nodup (ds := ds) h.once
  have ina : ∀ x ∈ ds, x.2 ∈ alls ds bs := fun x hx => mem_alls.mpr (.inl ((mem_rdrs _ _).mpr ⟨x, hx, rfl⟩))
  have f0 : ∀ n ∈ alls ds bs, 0 ≤ f n := fun n hn => Int.le_trans (h.ok n).1 (ok.1 n hn).1
  have mo := moves (τ := Str) dn ds ina f f0 ok.2
  have wm := fun x hx => wants_mem f (fun n => cnt n ds) (alls ds bs) x hx
  have on : once ds ys ds = some (bh (fun n => cnt n ds - f n) (wants f (fun n => cnt n ds) (alls ds bs)) ds) := by
    have := once_mv nod ds [] [] (fun n => cnt n ds - f n) (wants f (fun n => cnt n ds) (alls ds bs)) rfl rfl fun g hg => by have := (wm g hg).2; show cnt g ds - f g ≤ 0; omega
    rw [← ey, List.nil_append, List.nil_append] at this
    exact this
  have sd := sum_deal h.once ds
  have goals : ∀ d ∈ bh (fun n => cnt n ds - f n) (wants f (fun n => cnt n ds) (alls ds bs)) ds, d.2 ∈ alls ds bs := bh_names ds _ _ ina fun g hg => (wm g hg).1
  have inn : Inn (bh (fun n => cnt n ds - f n) (wants f (fun n => cnt n ds) (alls ds bs)) ds) bs lo hi := fun n hn => by
    have mem : n ∈ alls ds bs := by
      rcases mem_alls.mp hn with z | z
      · obtain ⟨d, hd, e⟩ := (mem_rdrs _ _).mp z
        rw [← e]
        exact goals d hd
      · exact mem_alls.mpr (.inr z)
    rw [mo.2.2.2.2 n mem]
    exact ok.1 n mem
  have many : (ys.length : Int) = sumF (fun n => max 0 (cnt n ds - f n)) (alls ds bs) := by rw [ey]; exact mo.1
  -- the evidence
  have okB : ∀ r ∈ (alls ds bs).map (Deal.rd ⟨fun n => cnt n ds, lo, hi⟩), r.Ok := fun r hr => by
    obtain ⟨n, _, rfl⟩ := List.mem_map.mp hr
    exact (h.ok n).2.1
  have sl := sum_alls h ds
  have e1 : sumB Rd.l ((alls ds bs).map (Deal.rd ⟨fun n => cnt n ds, lo, hi⟩)) = ds.length := (sumB_map ⟨fun n => cnt n ds, lo, hi⟩ Rd.l (alls ds bs)).trans sd
  have e2 : sumB Rd.lo ((alls ds bs).map (Deal.rd ⟨fun n => cnt n ds, lo, hi⟩)) = sumF lo bs := (sumB_map ⟨fun n => cnt n ds, lo, hi⟩ Rd.lo (alls ds bs)).trans sl.1
  have e3 : sumB Rd.hi ((alls ds bs).map (Deal.rd ⟨fun n => cnt n ds, lo, hi⟩)) = sumF hi bs := (sumB_map ⟨fun n => cnt n ds, lo, hi⟩ Rd.hi (alls ds bs)).trans sl.2
  have e4 : sumB Rd.c ((alls ds bs).map (Deal.rd ⟨fun n => cnt n ds, lo, hi⟩)) = sumF (fun n => (Deal.rd ⟨fun n => cnt n ds, lo, hi⟩ n).c) (alls ds bs) := sumB_map ⟨fun n => cnt n ds, lo, hi⟩ Rd.c (alls ds bs)
  have best := (near_best okB (by rw [e1, e2]; exact room.1) (by rw [e1, e3]; exact room.2)).2.2
  rw [e1, e4, nr.near_] at best
  have w := near_way okB (by rw [e1, e2]; exact room.1) (by rw [e1, e3]; exact room.2)
  rw [e1, e4, nr.near_, cost_map, sumB_map, sumB_map] at w
  have sum_way : sumF (needT (fun n => cnt n ds) lo hi way) (alls ds bs) = ys.length := by
    by_cases c1 : sumF (needT (fun n => cnt n ds) lo hi "leaving") (alls ds bs) = ys.length
    · rw [if_pos c1] at ew
      rw [ew]; exact c1
    · rw [if_neg c1] at ew
      rw [ew]
      rcases w with w | w
      · exact absurd (show sumF (needT (fun n => cnt n ds) lo hi "leaving") (alls ds bs) = ys.length by rw [many]; exact w.symm) c1
      · rw [many]; exact w.symm
  have sub : ∀ r ∈ rs, r ∈ alls ds bs := fun r hr => by rw [er] at hr; exact (List.mem_filter.mp hr).1
  refine ⟨f, _, ⟨⟨_, on, inn, ?_, by rw [er]; exact dn.filter _, sub, ?_⟩, on, inn, many, ok.1, by rw [ok.2, sd], fun y hy => ?_, sub, fun n no => outside h no, fun g hg sg => ?_, goals⟩⟩
  · rw [ew]
    by_cases c1 : sumF (needT (fun n => cnt n ds) lo hi "leaving") (alls ds bs) = ys.length
    · exact .inl (congrArg Str.ofString (if_pos c1))
    · exact .inr (congrArg Str.ofString (if_neg c1))
  · rw [er, sumF_pos (need_0 _ _ _ _)]; exact sum_way
  · rw [ey] at hy
    have z := mo.2.2.1 y hy
    exact ⟨z.1, z.2.2.1⟩
  · have z := best ((alls ds bs).map g) ((in_map ⟨fun n => cnt n ds, lo, hi⟩ g _).mpr hg) (by rw [sum_map]; exact sg)
    rw [cost_map, cost_map] at z
    rw [many]; exact z
end
end KD
end
section
/-! The law's helpers: drawing. -/
namespace KD
open PySem L2 DM
theorem made {H : Hp} {p : Addr} {o : HO} (h : H p = none) : Same H (upd H p o) := made' h
theorem Off.same {p : Addr} {H H' : Hp} (e : Same H H') : Off p H H' := fun b o z _ => e b o z
theorem Off.trans {p : Addr} {H H1 H2 : Hp} (a : Off p H H1) (b : Off p H1 H2) : Off p H H2 := fun c o z n => b c o (a c o z n) n
theorem Off.upd {p : Addr} {H : Hp} {o : HO} : Off p H (upd H p o) := fun b u z n => by rw [upd_ne n]; exact z
theorem eqv_nil (ns : List Int) : PyData.eqv (.list (ns.map .int)) (.list []) = decide (ns = []) := by
  cases ns <;> rfl
theorem dp_ints {K : PySem.W.Frag} {H : Hp} : ∀ ns : List Int, DpAll K H (ns.map V.int) (ns.map .int)
  | [] => .nil
  | n :: ns => .cons (.int n) (dp_ints ns)
theorem lay_ints : ∀ ns : List Int, PyData.canLayAll0 (ns.map .int) = true
  | [] => rfl
  | n :: ns => by
    show (PyData.canLay0 (.int n) && PyData.canLayAll0 (ns.map .int)) = true
    rw [lay_ints ns]; rfl
theorem deep_ints : ∀ ns : List Int, PyData.depthAll (ns.map .int) = 0
  | [] => rfl
  | n :: ns => by rw [List.map_cons, PyData.depthAll, deep_ints ns]; rfl
theorem shape_ints (ns : List Int) : SeqAt.shaped (.list (ns.map .int)) = true := by
  have e1 : PyData.canLay0 (.list (ns.map .int)) = true := lay_ints ns
  have e2 : PyData.depth (.list (ns.map .int)) = 1 := by show PyData.depthAll _ + 1 = 1; rw [deep_ints]
  unfold SeqAt.shaped
  rw [e1, e2]; rfl
/-- how the law draws -/
def DrawAt (H : Hp) (d a : Addr) : Prop := ∃ k : Int, H d = some (.lst [.ref a, .int k])
theorem DrawAt.same {H H' : Hp} {d a : Addr} (h : DrawAt H d a) (e : Same H H') : DrawAt H' d a := let ⟨k, h⟩ := h; ⟨k, e _ _ h⟩
theorem ints_ne_draw {ns : List Int} {a : Addr} {k : Int} : ¬ (ns.map V.int : List V) = [.ref a, .int k] := by
  cases ns with
  | nil => simp
  | cons n ns => simp
theorem draw_ne {H : Hp} {d a p : Addr} {ns : List Int} (D : DrawAt H d a) (h : H p = some (.lst (ns.map V.int))) : p ≠ d := fun e => by
  obtain ⟨k, hd⟩ := D
  rw [e, hd] at h
  exact ints_ne_draw (HO.lst.inj (Option.some.inj h)).symm
theorem script_off {K : PySem.W.Frag} {H H' : Hp} {d a b : Addr} {ns : List Int} (D : DrawAt H d b) (o : Off d H H') (h : SqL K H a (ns.map V.int)) : SqL K H' a (ns.map V.int) := by
  obtain ⟨k, hd⟩ := id D
  rcases h with (h | ⟨ob, h⟩) | h
  · exact .inl (.inl (o _ _ h (draw_ne D h)))
  · exact .inl (.inr ⟨ob, o _ _ h fun e => by rw [e, hd] at h; cases h⟩)
  · exact .inr h
def spNumber (K : PySem.W.Frag) : Sp := fun vs H Q _ => ∃ (a : Addr) (ns : List Int) (i : Int), vs = [.ref a, .int i] ∧ SqL K H a (ns.map V.int) ∧ ns.length ≤ 63 ∧ ∀ H' v, Same H H' → Q (.int v) H'
def spTake (K : PySem.W.Frag) : Sp := fun vs H Q _ => ∃ (d a : Addr) (ns : List Int) (m : Int), vs = [.ref d, .int m] ∧ DrawAt H d a ∧ SqL K H a (ns.map V.int) ∧ ns.length ≤ 63 ∧ 0 < m ∧ ∀ H' r, Off d H H' → DrawAt H' d a → 0 ≤ r → r < m → Q (.int r) H'

theorem look_at {ds : List (Str × Str)} (nd : (ds.map (·.1)).Nodup) {d : Str × Str} (h : d ∈ ds) : look ds d.1 = some d.2 := by
  cases e : look ds d.1 with
  | none => exact absurd (List.mem_map.mpr ⟨d, h, rfl⟩) (look_none.mp e)
  | some r =>
    have m := look_mem e
    have : ∀ xs : List (Str × Str), (xs.map (·.1)).Nodup → (d.1, r) ∈ xs → d ∈ xs → r = d.2 := by
      intro xs
      induction xs with
      | nil => intro _ h; cases h
      | cons x xs ih =>
        intro nd h1 h2
        have nd' := List.nodup_cons.mp nd
        rcases List.mem_cons.mp h1 with q1 | q1 <;> rcases List.mem_cons.mp h2 with q2 | q2
        · rw [← q2] at q1; rw [← q1]
        · exact absurd (List.mem_map.mpr ⟨d, q2, by rw [← q1]⟩) nd'.1
        · exact absurd (List.mem_map.mpr ⟨_, q1, by rw [← q2]⟩) nd'.1
        · exact ih nd'.2 q1 q2
    rw [this ds nd m h]
theorem cnt_filter (r : Str) : ∀ ds : List (Str × Str), ((ds.filter fun d => decide (d.2 = r)).length : Int) = cnt r ds
  | [] => rfl
  | d :: ds => by
    have ih := cnt_filter r ds
    rw [List.filter_cons, cnt_cons]
    by_cases q : d.2 = r
    · rw [if_pos (decide_eq_true q), if_pos q, List.length_cons]; omega
    · rw [if_neg (by rw [decide_eq_false q]; exact Bool.false_ne_true), if_neg q]; omega
def spPick (K : PySem.W.Frag) : Sp := fun vs H Q _ => ∃ (d a l : Addr) (ns : List Int) (xs : List V), vs = [.ref d, .ref l] ∧ DrawAt H d a ∧ SqL K H a (ns.map V.int) ∧ ns.length ≤ 63 ∧ l ≠ d ∧ H l = some (.lst xs) ∧ xs ≠ [] ∧ ∀ H' x, Off d H H' → DrawAt H' d a → x ∈ xs → Q x H'
/-- the numbers of lanes of some readers -/
def spLLoads : Sp := fun vs H Q _ => ∃ (p l : Addr) (ds : List (Str × Str)) (rs : List Str), vs = [.ref p, .ref l] ∧ DealAt H p ds ∧ H l = some (.lst (rs.map V.str)) ∧ rs.length ≤ 100 ∧ ∀ H' D, Same H H' → H D = none → H' D = some (.lst ((rs.map fun n => cnt n ds).map V.int)) → Q (.ref D) H'
section
variable {P : Program} {w : World} {K : PySem.W.Frag} {mg : Str → Option Value} {base : Heap} {c : Cs}
abbrev sNumber : Stmt := top 32
theorem scNumber : FnScope ["script", "index", "cell", "blend"] ["script", "index"] (defScope sNumber) := ⟨rfl, rfl, rfl, by decide +kernel, rfl, by decide +kernel, by decide +kernel⟩
theorem ok_number {f : Addr} {fd : FuncData} (F : Fun K "_law_number" "_law_number" sNumber f fd) (T : TxD mg) : FnOk P w K mg base CX0 1 f fd ["script", "index"] (spNumber K) := by
  refine F.ok scNumber (fun vs H Q E h => ?_) (fun cdv A outer s H vs Q E hr h => ?_)
  · obtain ⟨a, ns, i, rfl, _⟩ := h
    rfl
  · obtain ⟨a, ns, i, rfl, hS, few, k⟩ := h
    have nd := scNumber.nd
    have hu := hr.units
    refine ⟨_, (pss_cons (ps_if (pt_cmpR (op_eqD hu) (pv 0) (pe_lst pa_nil) (nomark _))
        (pss_one (ps_ret (pe_callTy call_int1 (by rfl) T.int PyProof.Rows.boot_int (pa_cons (pe_op op_mod (pe_op op_add (pe_op op_mul (pv 1) pe_int) pe_int) pe_int) pa_nil))))
        pss_nil)
      (pss_cons (ps_set (i := 2) nd rfl (Or.inl rfl) (pe_ix ix_list (pv 0) (pe_op op_mod (pv 1) (pe_callB call_len_seq (by rfl) T.len PySem.boot_len (pa_cons (pv 0) pa_nil))) (fun _ _ => rfl)))
      (pss_cons (ps_if (pt_cmpR op_ge (pe_callB call_abs (by rfl) T.abs (by decide +kernel) (pa_cons (pv 2) pa_nil)) (pe_op op_pow pe_int pe_int) (nomark _))
        (pss_one (ps_set (i := 2) nd rfl (Or.inl rfl) (pe_op op_mod (pv 2) (pe_op op_pow pe_int pe_int))))
        pss_nil)
      (pss_cons (ps_set (i := 3) nd rfl (Or.inl rfl) (pe_op op_mod (pe_op op_add (pe_op op_mul (pe_op op_add (pv 2) (pe_op op_mul pe_int (pv 1))) pe_int) (pe_op op_mul pe_int (pe_callB call_len_seq (by rfl) T.len PySem.boot_len (pa_cons (pv 0) pa_nil)))) pe_int))
      (pss_one (ps_ret (pe_callTy call_int1 (by rfl) T.int PyProof.Rows.boot_int (pa_cons (pe_op op_mod (pe_op op_add (pe_op op_mul (pe_op op_mod (pe_op op_mul (pv 3) pe_int) pe_int) pe_int) (pv 1)) pe_int) pa_nil)))))))), ?_⟩
    refine ⟨_, rfl, Nat.zero_le _, fun l nl => ?_⟩
    have e1 : Same H (upd H l (.lst [])) := made nl
    refine ⟨.list (ns.map .int), .list [], .lst (e1.seq hS) (dp_ints ns), .lst (SqL.of upd_same) .nil, shape_ints ns, rfl, _, rfl, ?_⟩
    rw [eqv_nil]
    rcases Decidable.em (ns = []) with ez | ez
    · rw [decide_eq_true ez]
      exact iteT ⟨_, rfl, _, _, rfl, rfl, .inr ⟨by decide, by decide⟩, _, _, rfl, rfl, _, _, rfl, rfl, (show (0 : Int) < 2147483647 by decide), .inl ⟨_, rfl, k _ _ e1⟩⟩
    · rw [decide_eq_false ez]
      refine iteF ?_
      unfold tNext
      dsimp only
      have pos : 0 < ns.length := List.length_pos_iff.mpr ez
      have hS1 := e1.seq hS
      generalize upd H l (.lst []) = H1 at e1 hS1
      have m1 : 0 ≤ i % (ns.length : Int) := Int.emod_nonneg _ (by omega)
      have m2 : i % (ns.length : Int) < (ns.length : Int) := Int.emod_lt_of_pos _ (by omega)
      obtain ⟨x, hx⟩ : ∃ x, ns[(i % (ns.length : Int)).toNat]? = some x := ⟨_, List.getElem?_eq_getElem (show (i % (ns.length : Int)).toNat < ns.length by omega)⟩
      refine into ⟨_, rfl, _, rfl, _, rfl, a, _, rfl, .inl hS1, _, _, rfl, rfl, by rw [List.length_map]; omega, a, _, _, .int x, rfl, rfl, hS1, ?_, ?_⟩
      · rw [List.length_map, show i % (ns.length : Int) = ((i % (ns.length : Int)).toNat : Int) by omega]
        exact atI_nat (by rw [List.getElem?_map, hx]; rfl)
      · have small : ns.length ≤ 63 := few
        refine into ⟨_, rfl, _, rfl, _, _, rfl, rfl, ⟨by decide, by decide, by decide⟩, _, _, rfl, rfl, _, rfl, ?_⟩
        generalize decide ((if x < 0 then -x else x) ≥ (10 : Int) ^ (60 : Int).toNat) = big
        cases big with
        | true =>
          refine iteT ⟨_, rfl, _, _, rfl, rfl, ⟨by decide, by decide, by decide⟩, _, _, rfl, rfl, (show (0 : Int) < 10 ^ (18 : Int).toNat by decide), ?_⟩
          generalize x % 10 ^ (18 : Int).toNat = y
          refine into ⟨_, rfl, _, rfl, _, _, rfl, rfl, .inl ⟨by decide, by decide⟩, _, _, rfl, rfl, _, _, rfl, rfl, .inr ⟨by decide, by decide⟩, _, rfl, a, _, rfl, .inl hS1, _, _, rfl, rfl, .inl ⟨by decide, by decide⟩, _, _, rfl, rfl, _, _, rfl, rfl, (show (0 : Int) < 2147483647 by decide), ?_⟩
          exact ⟨_, rfl, _, _, rfl, rfl, .inr ⟨by decide, by decide⟩, _, _, rfl, rfl, (show (0 : Int) < 2147483629 by decide), _, _, rfl, rfl, .inr ⟨by decide, by decide⟩, _, rfl, _, _, rfl, rfl, _, _, rfl, rfl, (show (0 : Int) < 2147483587 by decide), .inl ⟨_, rfl, k _ _ e1⟩⟩
        | false =>
          refine iteF ?_
          dsimp only
          refine into ⟨_, rfl, _, rfl, _, _, rfl, rfl, .inl ⟨by decide, by decide⟩, _, _, rfl, rfl, _, _, rfl, rfl, .inr ⟨by decide, by decide⟩, _, rfl, a, _, rfl, .inl hS1, _, _, rfl, rfl, .inl ⟨by decide, by decide⟩, _, _, rfl, rfl, _, _, rfl, rfl, (show (0 : Int) < 2147483647 by decide), ?_⟩
          exact ⟨_, rfl, _, _, rfl, rfl, .inr ⟨by decide, by decide⟩, _, _, rfl, rfl, (show (0 : Int) < 2147483629 by decide), _, _, rfl, rfl, .inr ⟨by decide, by decide⟩, _, rfl, _, _, rfl, rfl, _, _, rfl, rfl, (show (0 : Int) < 2147483587 by decide), .inl ⟨_, rfl, k _ _ e1⟩⟩
abbrev sTake : Stmt := top 33
theorem scTake : FnScope ["draw", "many"] ["draw", "many"] (defScope sTake) := ⟨rfl, rfl, rfl, by decide +kernel, rfl, by decide +kernel, by decide +kernel⟩
theorem ok_take {f fN : Addr} {fd fdN : FuncData} (F : Fun K "_law_take" "_law_take" sTake f fd) (T : TxD mg) (A_law_number : At K mg "_law_number" fN) (G_law_number : FnOk P w K mg base CX0 1 fN fdN ["script", "index"] (spNumber K)) (b_law_number : Binds K fdN ["script", "index"] []) :
    FnOk P w K mg base CX0 2 f fd ["draw", "many"] (spTake K) := by
  refine F.ok scTake (fun vs H Q E h => ?_) (fun cdv A outer s H vs Q E hr h => ?_)
  · obtain ⟨d, a, ns, m, rfl, _⟩ := h
    rfl
  · obtain ⟨d, a, ns, m, rfl, D, hS, few, m0, k⟩ := h
    have hr_law_number : Room 1 _ := hr
    refine ⟨_, (pss_cons (ps_augS (pv 0) pe_int pget_list pe_int ip_add set_list)
      (pss_one (ps_ret (pe_op op_mod (pe_callTy call_int1 (by rfl) T.int PyProof.Rows.boot_int (pa_cons (pe_call G_law_number hr_law_number (by rfl) A_law_number.g A_law_number.k b_law_number .nil pass0 (pa_cons (pe_ix ix_list (pv 0) pe_int (fun _ _ => rfl)) (pa_cons (pe_callTy call_int1 (by rfl) T.int PyProof.Rows.boot_int (pa_cons (pe_ix ix_list (pv 0) pe_int (fun _ _ => rfl)) pa_nil)) pa_nil))) pa_nil)) (pv 1))))), ?_⟩
    obtain ⟨n, hd⟩ := id D
    refine into ⟨_, rfl, d, _, 1, .int n, rfl, rfl, SqL.of hd, rfl, n, 1, rfl, rfl, d, _, 1, 1, rfl, rfl, hd, rfl, ?_⟩
    have o1 : Off d H (upd H d (.lst (List.set [.ref a, .int n] 1 (.int (n + 1))))) := Off.upd
    have hd1 : (upd H d (.lst (List.set [.ref a, .int n] 1 (.int (n + 1))))) d = some (.lst [.ref a, .int (n + 1)]) := upd_same
    generalize upd H d (.lst (List.set [.ref a, .int n] 1 (.int (n + 1)))) = H1 at o1 hd1
    have hS1 := script_off D o1 hS
    refine ⟨_, rfl, d, _, _, .ref a, rfl, rfl, SqL.of hd1, atI_nat (j := 0) rfl, _, rfl, d, _, _, .int (n + 1), rfl, rfl, SqL.of hd1, atI_nat (j := 1) rfl, .inl ⟨_, rfl, a, ns, _, rfl, hS1, few, fun H2 v e2 => ?_⟩⟩
    refine .inl ⟨_, rfl, _, rfl, _, _, rfl, rfl, m0, ?_⟩
    exact k H2 _ (o1.trans (Off.same e2)) ⟨_, e2 _ _ hd1⟩ (Int.emod_nonneg _ (by omega)) (Int.emod_lt_of_pos _ m0)
abbrev sPick : Stmt := top 34
theorem scPick : FnScope ["draw", "items"] ["draw", "items"] (defScope sPick) := ⟨rfl, rfl, rfl, by decide +kernel, rfl, by decide +kernel, by decide +kernel⟩
theorem ok_pick {f fN : Addr} {fd fdN : FuncData} (F : Fun K "_law_pick" "_law_pick" sPick f fd) (T : TxD mg) (A_law_take : At K mg "_law_take" fN) (G_law_take : FnOk P w K mg base CX0 2 fN fdN ["draw", "many"] (spTake K)) (b_law_take : Binds K fdN ["draw", "many"] []) :
    FnOk P w K mg base CX0 3 f fd ["draw", "items"] (spPick K) := by
  refine F.ok scPick (fun vs H Q E h => ?_) (fun cdv A outer s H vs Q E hr h => ?_)
  · obtain ⟨d, a, l, ns, xs, rfl, _⟩ := h
    rfl
  · obtain ⟨d, a, l, ns, xs, rfl, D, hS, few, ne, hl, some_, k⟩ := h
    have hr_law_take : Room 2 _ := hr
    refine ⟨_, (pss_one (ps_ret (pe_ix ix_list (pv 1) (pe_call G_law_take hr_law_take (by rfl) A_law_take.g A_law_take.k b_law_take .nil pass0 (pa_cons (pv 0) (pa_cons (pe_callB call_len_seq (by rfl) T.len PySem.boot_len (pa_cons (pv 1) pa_nil)) pa_nil))) (fun _ _ => rfl)))), ?_⟩
    have pos : 0 < xs.length := List.length_pos_iff.mpr some_
    refine ⟨_, rfl, _, rfl, _, rfl, l, _, rfl, .inl (SqL.of hl), d, a, ns, xs.length, rfl, D, hS, few, by omega, fun H1 r o1 D1 r0 r1 => ?_⟩
    have hl1 := o1 _ _ hl ne
    have lt : r.toNat < xs.length := by omega
    refine ⟨l, _, _, xs[r.toNat], rfl, rfl, SqL.of hl1, ?_, k H1 _ o1 D1 (List.getElem_mem lt)⟩
    have z := atI_nat (List.getElem?_eq_getElem lt)
    rw [show ((r.toNat : Nat) : Int) = r by omega] at z
    exact z
abbrev sLLoads : Stmt := top 39
abbrev nLLoads : List Str := ["deal", "readers", "reader", "lane"]
theorem scLLoads : FnScope nLLoads ["deal", "readers"] (defScope sLLoads) := ⟨rfl, rfl, rfl, by decide +kernel, rfl, by decide +kernel, by decide +kernel⟩
theorem ok_lloads {f : Addr} {fd : FuncData} (F : Fun K "_law_loads" "_law_loads" sLLoads f fd) (T : TxD mg) : FnOk P w K mg base CX0 3 f fd ["deal", "readers"] spLLoads := by
  refine F.ok scLLoads (fun vs H Q E h => ?_) (fun cdv A outer s H vs Q E hr h => ?_)
  · obtain ⟨p, l, ds, rs, rfl, _⟩ := h
    rfl
  · obtain ⟨p, l, ds, rs, rfl, hd, hl, few, k⟩ := h
    have nd := scLLoads.nd
    have hu := hr.units
    have hu1 : _ < cLine := hr.in1.units0
    refine ⟨_, (pss_one (ps_ret (pe_lc (own := [("reader", 2)]) (by rfl) nd (pi_list (pv 1)) (blkOk_by (N := nLLoads) (sc := defScope sLLoads) (by decide +kernel)) (fun _ _ _ _ _ => (pg_name (i := 2) nd rfl (Or.inr rfl))) (fun _ _ _ _ _ => pts_nil) (fun _ _ _ _ _ => (pe_callB (MX.call_lenK (K := K) rfl) (by rfl) T.len PySem.boot_len (pa_cons (pe_lock (pe_lc (own := [("lane", 3)]) (by rfl) nd (pi_keys (pv 0)) (blkOk_by (by rfl)) (fun _ _ _ _ _ => (pg_name (i := 3) nd rfl (Or.inl rfl))) (fun _ _ _ _ _ => pts_one (pt_cmpR op_eq (pe_dget hu1 (pv 0) (pv 3) (fun _ _ => rfl)) (pv 2) (nomark _))) (fun _ _ _ _ _ => (pv 3)))) pa_nil)))))), ?_⟩
    refine ⟨_, rfl, l, rfl, ⟨_, SqL.of hl⟩, fun D hD => lc_list (K := K) (a := l) (xs := rs.map V.str) (fun i H' => H' D = some (.lst (((rs.take i).map fun n => cnt n ds).map V.int)) ∧ Same H H') ⟨upd_same, made hD⟩ (fun i H' _ ⟨_, e⟩ => SqL.of (e _ _ hl)) ?_ ?_⟩
    · rintro i x H1 hx ⟨h2, e1⟩
      obtain ⟨r, hr', rfl⟩ := str_at hx
      have lt : i < rs.length := (List.getElem?_eq_some_iff.mp hr').1
      have hp1 := e1 _ _ hd.at_
      refine ⟨rfl, p, _, hp1, trivial, fun od => ⟨_, rfl, p, od, rfl, .inl ⟨_, upd_same, fun D2 nD2 => ?_⟩⟩⟩
      have npD : p ≠ D2 := fun q => by rw [← q, upd_same] at nD2; cases nD2
      have nD1 : H1 D2 = none := by rw [upd_ne npD.symm] at nD2; exact nD2
      refine lc_it walk_keys (fun j H' => H' p = some (.frz od (.dK (dealV ds))) ∧ H' D2 = some (.lst (((ds.take j).filter fun d => decide (d.2 = r)).map fun d => V.str d.1)) ∧ ∀ b o, H1 b = some o → b ≠ p → H' b = some o) ⟨by rw [upd_ne npD, upd_same], by rw [upd_same, List.take_zero]; rfl, fun b o z n => by rw [upd_ne (ne_of_none z nD1), upd_ne n]; exact z⟩ (fun j H' _ z => z.1) ?_ ?_
      · rintro j x H3 H4 hj ⟨z1, z2, z3⟩ ⟨rfl, k', v, hx', rfl⟩
        obtain ⟨d, hd', rfl, rfl⟩ : ∃ d, ds[j]? = some d ∧ k' = .inr d.1 ∧ v = .str d.2 := by
          unfold dealV at hx'
          rw [List.getElem?_map] at hx'
          cases e : ds[j]? with
          | none => rw [e] at hx'; cases hx'
          | some d => rw [e] at hx'; cases hx'; exact ⟨d, rfl, rfl, rfl⟩
        have v1 : valV (dealV ds) (.inr d.1) = some (.str d.2) := by rw [val_deal, look_at hd.once (List.mem_of_getElem? hd')]; rfl
        have few1 : ((ds.take j).filter fun d => decide (d.2 = r)).length ≤ 60 := Nat.le_trans (List.length_filter_le _ _) (by rw [List.length_take]; have := hd.few; omega)
        refine ⟨rfl, _, rfl, _, rfl, p, _, rfl, getK (k := .inr d.1) (.inr ⟨_, z1⟩) v1, _, rfl, rfl, _, rfl, ?_⟩
        by_cases q : d.2 = r
        · refine iteT' (decide_eq_true (by rw [q])) ⟨_, rfl, _, z2, by rw [List.length_map, sizeLine_eq]; omega, by rw [upd_ne npD]; exact z1, ?_, fun b o z n => by rw [upd_ne (ne_of_none z nD1)]; exact z3 b o z n⟩
          rw [upd_same, take_snoc hd', List.filter_append, List.map_append, List.filter_cons, if_pos (decide_eq_true q)]; rfl
        · refine iteF' (fun z => q (V.str.inj (of_decide_eq_true z))) ⟨z1, ?_, z3⟩
          rw [z2, take_snoc hd', List.filter_append, List.filter_cons, if_neg (by rw [decide_eq_false q]; exact Bool.false_ne_true), List.filter_nil, List.append_nil]
      · rintro H3 ⟨z1, z2, z3⟩
        rw [show (dealV ds).length = ds.length from List.length_map _, List.take_length] at z2
        refine ⟨z1, D2, _, rfl, .inl (SqL.of (by rw [upd_ne npD.symm]; exact z2)), ?_⟩
        rw [List.length_map, cnt_filter]
        have e3 : Same H1 (upd H3 p (.dK (dealV ds))) := same_back hp1 z3
        refine ⟨_, e3 _ _ h2, by rw [List.length_map, List.length_map, List.length_take, sizeLine_eq]; omega, ?_, put_in (e1.trans e3) hD⟩
        rw [upd_same, take_snoc hr', List.map_append, List.map_append]; rfl
    · rintro H1 ⟨h2, e1⟩
      rw [List.length_map, List.take_length] at h2
      exact k H1 D e1 hD h2
end
end KD
end
section
/-! The law's helpers: deals and bounds that are drawn. -/
namespace KD
open PySem L2 DM
def lanes : List Str := ["a", "b", "c", "d", "e", "f", "g"]
theorem DealAt.off {H H' : Hp} {p d a : Addr} {ds : List (Str × Str)} (D : DrawAt H d a) (h : DealAt H p ds) (o : Off d H H') : DealAt H' p ds := by
  obtain ⟨k, hd⟩ := id D
  exact ⟨o _ _ h.at_ (fun e => by have := h.at_; rw [e, hd] at this; cases this), h.once, h.few⟩
theorem Bds.off {H H' : Hp} {bp d a : Addr} {bs : List Str} {lo hi : Str → Int} (D : DrawAt H d a) (h : Bds H bp bs lo hi) (o : Off d H H') : Bds H' bp bs lo hi := by
  obtain ⟨k, hd⟩ := id D
  obtain ⟨bk, h1, h2, h3⟩ := h.at_
  exact ⟨⟨bk, o _ _ h1 (fun e => by rw [e, hd] at h1; cases h1), h2, fun r => (h3 r).same fun a o' z u => o _ _ z fun e => by obtain ⟨xs, u⟩ := u; rw [e, hd, u] at z; cases z⟩, h.once, h.few, h.ok⟩
theorem strs_ne {rs : List Str} {a : Addr} {k : Int} : ¬ (rs.map V.str : List V) = [.ref a, .int k] := by
  cases rs with
  | nil => simp
  | cons n ns => simp
theorem strs_off {H : Hp} {d a p : Addr} {rs : List Str} (D : DrawAt H d a) (h : H p = some (.lst (rs.map V.str))) : p ≠ d := fun e => by
  obtain ⟨k, hd⟩ := D
  rw [e, hd] at h
  exact strs_ne (HO.lst.inj (Option.some.inj h)).symm
def spLDeal (K : PySem.W.Frag) : Sp := fun vs H Q _ => ∃ (d a l : Addr) (ns : List Int) (rs : List Str) (m : Nat), vs = [.ref d, .ref l, .int m] ∧ DrawAt H d a ∧ SqL K H a (ns.map V.int) ∧ ns.length ≤ 63 ∧ H l = some (.lst (rs.map V.str)) ∧ rs ≠ [] ∧ m ≤ 7 ∧
  ∀ H' p ds, Off d H H' → DrawAt H' d a → H p = none → DealAt H' p ds → ds.map (·.1) = lanes.take m → (∀ x ∈ ds, x.2 ∈ rs) → Q (.ref p) H'
def spLBounds (K : PySem.W.Frag) : Sp := fun vs H Q _ => ∃ (d a l : Addr) (ns : List Int) (bs : List Str) (m : Nat), vs = [.ref d, .ref l, .int m] ∧ DrawAt H d a ∧ SqL K H a (ns.map V.int) ∧ ns.length ≤ 63 ∧ H l = some (.lst (bs.map V.str)) ∧ bs.Nodup ∧ bs.length ≤ 12 ∧ m ≤ 7 ∧
  ∀ H' p lo hi, Off d H H' → DrawAt H' d a → H p = none → Bds H' p bs lo hi → Q (.ref p) H'
section
variable {P : Program} {w : World} {K : PySem.W.Frag} {mg : Str → Option Value} {base : Heap} {c : Cs}
abbrev sLDeal : Stmt := top 36
abbrev nLDeal : List Str := ["draw", "readers", "many", "found", "lane"]
theorem scLDeal : FnScope nLDeal ["draw", "readers", "many"] (defScope sLDeal) := ⟨rfl, rfl, rfl, by decide +kernel, rfl, by decide +kernel, by decide +kernel⟩
theorem ok_ldeal {f fN : Addr} {fd fdN : FuncData} (F : Fun K "_law_deal" "_law_deal" sLDeal f fd) (T : TxD mg) (A_law_pick : At K mg "_law_pick" fN) (G_law_pick : FnOk P w K mg base CX0 3 fN fdN ["draw", "items"] (spPick K)) (b_law_pick : Binds K fdN ["draw", "items"] []) :
    FnOk P w K mg base CX0 4 f fd ["draw", "readers", "many"] (spLDeal K) := by
  refine F.ok scLDeal (fun vs H Q E h => ?_) (fun cdv A outer s H vs Q E hr h => ?_)
  · obtain ⟨d, a, l, ns, rs, m, rfl, _⟩ := h
    rfl
  · obtain ⟨d, a, l, ns, rs, m, rfl, D, hS, few, hl, ne, m7, k⟩ := h
    have nd := scLDeal.nd
    have hu1 : _ < cLine := hr.in1.units0
    have hr_law_pick : Room 3 _ := hr
    refine ⟨_, (pss_cons (ps_set (i := 3) nd rfl (Or.inl rfl) (pe_dnewK))
      (pss_cons (ps_for PassesOwn.never rfl (pi_str (pe_slice sl_str pe_str po_none (po_some (pv 2)))) (pg_name (i := 4) nd rfl (Or.inl rfl))
        (pss_one (ps_dput hu1 (pv 3) (pv 4) (pe_call G_law_pick hr_law_pick (by rfl) A_law_pick.g A_law_pick.k b_law_pick .nil pass0 (pa_cons (pv 0) (pa_cons (pv 1) pa_nil))) rfl)))
      (pss_one (ps_ret (pv 3))))), ?_⟩
    refine into fun F nF => ?_
    have e1 : Same H (upd H F (.dK [])) := made nF
    have D1 := D.same e1
    have hS1 := e1.seq hS
    have hl1 := e1 _ _ hl
    have hF1 : (upd H F (.dK [])) F = some (.dK []) := upd_same
    generalize upd H F (.dK []) = H1 at e1 D1 hS1 hl1 hF1
    have dF : F ≠ d := fun q => by obtain ⟨k', z⟩ := D; rw [q, z] at nF; cases nF
    have ld := strs_off D hl
    have lF : l ≠ F := fun q => by rw [q, nF] at hl; cases hl
    refine into ⟨_, rfl, _, rfl, _, rfl, by rw [sizeLine_eq]; decide, _, rfl, ?_⟩
    have size : (cutS (Str.ofString "abcdefg") none (some (m : Int))).cps.size = m ∧ ∀ (i : Nat) (ch : Nat), (cutS (Str.ofString "abcdefg") none (some (m : Int))).cps[i]? = some ch → lanes[i]? = some ⟨#[ch]⟩ := by
      have e : (cutS (Str.ofString "abcdefg") none (some (m : Int))).cps.toList = [97, 98, 99, 100, 101, 102, 103].take m := by
        match m, m7 with
        | 0, _ => decide +kernel
        | 1, _ => decide +kernel
        | 2, _ => decide +kernel
        | 3, _ => decide +kernel
        | 4, _ => decide +kernel
        | 5, _ => decide +kernel
        | 6, _ => decide +kernel
        | 7, _ => decide +kernel
        | n + 8, h => omega
      refine ⟨?_, fun i ch h => ?_⟩
      · rw [← Array.length_toList, e, List.length_take]
        show min m 7 = m
        omega
      · rw [← Array.getElem?_toList, e] at h
        have lt : i < m := by
          have := (List.getElem?_eq_some_iff.mp h).1
          rw [List.length_take] at this; omega
        rw [List.getElem?_take_of_lt lt] at h
        have el : lanes = [97, 98, 99, 100, 101, 102, 103].map fun c => (⟨#[c]⟩ : Str) := by decide +kernel
        rw [el, List.getElem?_map, h]; rfl
    refine for_it walk_str (fun i σ H' => (∃ y, σ = [some (.ref d), some (.ref l), some (.int m), some (.ref F), y]) ∧ Off d H H' ∧ DrawAt H' d a ∧ ∃ ds : List (Str × Str), H' F = some (.dK (dealV ds)) ∧ ds.map (·.1) = lanes.take i ∧ ∀ x ∈ ds, x.2 ∈ rs) ⟨⟨_, rfl⟩, Off.same e1, D1, [], hF1, rfl, fun x h => by cases h⟩ (fun _ _ _ _ _ => trivial) ?_ ?_
    · rintro i x σ H2 H3 hi ⟨⟨y, rfl⟩, o2, D2, ds, hF2, el, inr_⟩ ⟨rfl, ch, hc, rfl⟩
      have hl2 := o2 _ _ hl ld
      refine ⟨_, rfl, _, rfl, d, a, l, ns, rs.map V.str, rfl, D2, script_off D o2 hS, few, ld, hl2, by simpa using ne, fun H4 x o4 D4 hx => ?_⟩
      obtain ⟨r, hr', rfl⟩ := List.mem_map.mp hx
      have at_ := size.2 i ch hc
      have i7 : i < 7 := (List.getElem?_eq_some_iff.mp at_).1
      have lenD : ds.length = i := by
        have := congrArg List.length el
        rw [List.length_map, List.length_take] at this
        rw [this]; show min i 7 = i; omega
      have hF4 := o4 _ _ hF2 dF
      refine ⟨_, rfl, _, rfl, F, _, rfl, DPut.k (k := .inr ⟨#[ch]⟩) hF4 (by rw [show (dealV ds).length = ds.length from List.length_map _, sizeLine_eq]; omega), ⟨_, rfl⟩, ?_, ?_, ds ++ [(⟨#[ch]⟩, r)], ?_, ?_, fun x hx => ?_⟩
      · exact fun b o z n => by rw [upd_ne (ne_of_none z nF)]; exact o4 _ _ (o2 _ _ z n) n
      · obtain ⟨k', z⟩ := D4
        exact ⟨k', by rw [upd_ne dF.symm]; exact z⟩
      · rw [upd_same]
        unfold dealV
        unfold putK
        rw [if_neg]
        · rw [List.map_append]; rfl
        · intro z
          obtain ⟨kv, hk, e⟩ := List.any_eq_true.mp z
          obtain ⟨q, hq, rfl⟩ := List.mem_map.mp hk
          have m1 : q.1 ∈ lanes.take i := by rw [← el]; exact List.mem_map.mpr ⟨q, hq, rfl⟩
          rw [Sum.inr.inj (of_decide_eq_true e)] at m1
          exact new_at (by decide) at_ m1
      · rw [List.map_append, el, take_snoc at_]; rfl
      · rcases List.mem_append.mp hx with z | z
        · exact inr_ x z
        · rw [List.mem_singleton.mp z]; exact hr'
    · rintro σ H2 ⟨⟨y, rfl⟩, o2, D2, ds, hF2, el, inr_⟩
      rw [size.1] at el
      have lenD : ds.length ≤ 7 := by
        have := congrArg List.length el
        rw [List.length_map, List.length_take] at this
        rw [this]; omega
      exact ⟨_, rfl, k H2 F ds o2 D2 nF ⟨hF2, by rw [el]; exact (show lanes.Nodup by decide).sublist (List.take_sublist _ _), by omega⟩ el inr_⟩
abbrev sLBounds : Stmt := top 37
abbrev nLBounds : List Str := ["draw", "readers", "many", "found", "reader", "low"]
theorem scLBounds : FnScope nLBounds ["draw", "readers", "many"] (defScope sLBounds) := ⟨rfl, rfl, rfl, by decide +kernel, rfl, by decide +kernel, by decide +kernel⟩
theorem ok_lbounds {f fN : Addr} {fd fdN : FuncData} (F : Fun K "_law_bounds" "_law_bounds" sLBounds f fd) (T : TxD mg) (A_law_take : At K mg "_law_take" fN) (G_law_take : FnOk P w K mg base CX0 2 fN fdN ["draw", "many"] (spTake K)) (b_law_take : Binds K fdN ["draw", "many"] []) :
    FnOk P w K mg base CX0 3 f fd ["draw", "readers", "many"] (spLBounds K) := by
  refine F.ok scLBounds (fun vs H Q E h => ?_) (fun cdv A outer s H vs Q E hr h => ?_)
  · obtain ⟨d, a, l, ns, bs, m, rfl, _⟩ := h
    rfl
  · obtain ⟨d, a, l, ns, bs, m, rfl, D, hS, few, hl, nod, bfew, m7, k⟩ := h
    have nd := scLBounds.nd
    have hu1 : _ < cLine := hr.in1.units0
    have hr_law_take : Room 2 _ := hr
    refine ⟨_, (pss_cons (ps_set (i := 3) nd rfl (Or.inl rfl) (pe_dnewK))
      (pss_cons (ps_for PassesOwn.never rfl (pi_list (pv 1)) (pg_name (i := 4) nd rfl (Or.inl rfl))
        (pss_cons (ps_set (i := 5) nd rfl (Or.inl rfl) (pe_call G_law_take hr_law_take (by rfl) A_law_take.g A_law_take.k b_law_take .nil pass0 (pa_cons (pv 0) (pa_cons pe_int pa_nil))))
        (pss_one (ps_dput hu1 (pv 3) (pv 4) (pe_tup (pa_cons (pv 5) (pa_cons (pe_op op_add (pv 5) (pe_call G_law_take hr_law_take (by rfl) A_law_take.g A_law_take.k b_law_take .nil pass0 (pa_cons (pv 0) (pa_cons (pe_op op_add (pv 2) pe_int) pa_nil)))) pa_nil))) rfl))))
      (pss_one (ps_ret (pv 3))))), ?_⟩
    refine into fun F nF => ?_
    have e1 : Same H (upd H F (.dK [])) := made nF
    have D1 := D.same e1
    have hS1 := e1.seq hS
    have hl1 := e1 _ _ hl
    have hF1 : (upd H F (.dK [])) F = some (.dK []) := upd_same
    generalize upd H F (.dK []) = H1 at e1 D1 hS1 hl1 hF1
    have dF : F ≠ d := fun q => by obtain ⟨k', z⟩ := D; rw [q, z] at nF; cases nF
    refine into ⟨_, rfl, l, rfl, ⟨_, SqL.of hl1⟩, ?_⟩
    have ld := strs_off D hl
    have lF : l ≠ F := fun q => by rw [q, nF] at hl; cases hl
    refine for_list (xs := bs.map V.str) (fun i σ H' => (∃ y4 y5, σ = [some (.ref d), some (.ref l), some (.int m), some (.ref F), y4, y5]) ∧ Off d H H' ∧ DrawAt H' d a ∧ ∃ (lo hi : Str → Int) (ad : Str → Addr), H' F = some (.dK (tabV (fun n => .ref (ad n)) (bs.take i))) ∧ (∀ n ∈ bs.take i, H' (ad n) = some (.tup [.int (lo n), .int (hi n)])) ∧
      (∀ n, n ∉ bs.take i → lo n = 0 ∧ hi n = 0) ∧ ∀ n, 0 ≤ lo n ∧ lo n ≤ hi n ∧ hi n ≤ 60) ⟨⟨_, _, rfl⟩, Off.same e1, D1, fun _ => 0, fun _ => 0, fun _ => 0, by rw [List.take_zero]; exact hF1, fun n h => (by rw [List.take_zero] at h; cases h), fun n _ => ⟨rfl, rfl⟩, fun n => ⟨Int.le_refl _, Int.le_refl _, (show (0 : Int) ≤ 60 by decide)⟩⟩ (fun i σ H' _ ⟨_, o, _⟩ => SqL.of (o _ _ hl ld)) ?_ ?_
    · rintro i x σ H2 hx ⟨⟨y4, y5, rfl⟩, o2, D2, lo, hi, ad, z1, z2, z3, z4⟩
      obtain ⟨r, hr', rfl⟩ := str_at hx
      have lt : i < bs.length := (List.getElem?_eq_some_iff.mp hr').1
      refine into ⟨_, rfl, d, a, ns, 3, rfl, D2, script_off D o2 hS, few, by decide, fun H3 r1 o3 D3 r10 r13 => ?_⟩
      refine ⟨_, rfl, _, rfl, _, rfl, _, rfl, _, _, rfl, rfl, d, a, ns, (m : Int) + 1, rfl, D3, script_off D (o2.trans o3) hS, few, by omega, fun H4 r2 o4 D4 r20 r23 => ⟨_, _, rfl, rfl, by show 2 ≤ sizeLine; decide, fun t nt => ?_⟩⟩
      have o34 := o3.trans o4
      have hF4 := o34 _ _ z1 dF
      have t1 : Same H4 (upd H4 t (.tup [.int r1, .int (r1 + r2)])) := made nt
      have tup_ne : ∀ c xs, (upd H4 t (.tup [.int r1, .int (r1 + r2)])) c = some (.tup xs) → c ≠ F := fun c xs z q => by rw [q, t1 _ _ hF4] at z; cases z
      refine ⟨_, rfl, _, rfl, F, _, rfl, DPut.k (k := .inr r) (t1 _ _ hF4) (by rw [tabV_len, List.length_take, sizeLine_eq]; omega), ⟨_, _, rfl⟩, ?_, ?_, fun n => if n = r then r1 else lo n, fun n => if n = r then r1 + r2 else hi n, fun n => if n = r then t else ad n, ?_, fun n hn => ?_, fun n hn => ?_, fun n => ?_⟩
      · exact fun b o z n => by rw [upd_ne (ne_of_none z nF)]; exact t1 _ _ (o34 _ _ (o2 _ _ z n) n)
      · obtain ⟨k', z⟩ := D4
        exact ⟨k', by rw [upd_ne dF.symm]; exact t1 _ _ z⟩
      · rw [upd_same, put_tabV _ _ _ _ (new_at nod hr'), take_snoc hr']
        congr 2
        refine tabV_congr fun n _ => ?_
        dsimp only
        by_cases q : n = r
        · rw [if_pos q, if_pos q]
        · rw [if_neg q, if_neg q]
      · rw [take_snoc hr'] at hn
        dsimp only
        by_cases q : n = r
        · rw [if_pos q, if_pos q, if_pos q, upd_ne (tup_ne t _ upd_same), upd_same]
        · rw [if_neg q, if_neg q, if_neg q]
          have z0 := z2 n ((List.mem_append.mp hn).resolve_right fun y => q (List.mem_singleton.mp y))
          have z := t1 _ _ (o34 _ _ z0 fun e => by obtain ⟨k', w⟩ := D2; rw [e, w] at z0; cases z0)
          rw [upd_ne (tup_ne _ _ z)]; exact z
      · rw [take_snoc hr'] at hn
        have n1 : n ≠ r := fun q => hn (List.mem_append_right _ (List.mem_singleton.mpr q))
        dsimp only
        rw [if_neg n1, if_neg n1]
        exact z3 n fun q => hn (List.mem_append_left _ q)
      · dsimp only
        by_cases q : n = r
        · rw [if_pos q, if_pos q]; omega
        · rw [if_neg q, if_neg q]; exact z4 n
    · rintro σ H2 ⟨⟨y4, y5, rfl⟩, o2, D2, lo, hi, ad, z1, z2, z3, z4⟩
      rw [List.length_map, List.take_length] at z1 z2 z3
      refine ⟨_, rfl, k H2 F lo hi o2 D2 nF ⟨⟨_, z1, ?_, fun r => ?_⟩, nod, bfew, z4⟩⟩
      · unfold tabV
        rw [List.map_map]; rfl
      · by_cases q : r ∈ bs
        · exact .inr ⟨ad r, val_tabV _ r bs q, z2 r q⟩
        · refine .inl ⟨?_, (z3 r q).1, (z3 r q).2⟩
          unfold valV
          rw [Option.map_eq_none_iff, List.find?_eq_none]
          intro kv hk e
          obtain ⟨n, hn, rfl⟩ := List.mem_map.mp hk
          exact q (Sum.inr.inj (of_decide_eq_true e) ▸ hn)
end
end KD
end
section
/-! The law's helpers: all rows of loads. -/
namespace KD
open PySem L2 DM
/-- a list of pairs of numbers -/
structure LimAt (H : Hp) (l : Addr) (ls : List (Int × Int)) : Prop where
  at_ : ∃ ts : List Addr, H l = some (.lst (ts.map V.ref)) ∧ ts.length = ls.length ∧ ∀ (i : Nat) (t : Addr) (y : Int × Int), ts[i]? = some t → ls[i]? = some y → H t = some (.tup [.int y.1, .int y.2])
theorem LimAt.same {H H' : Hp} {l : Addr} {ls : List (Int × Int)} (h : LimAt H l ls) (e : Same H H') : LimAt H' l ls := ⟨let ⟨ts, h1, h2, h3⟩ := h.at_; ⟨ts, e _ _ h1, h2, fun i t y a b => e _ _ (h3 i t y a b)⟩⟩
/-- a list of lists of numbers, all of them new -/
structure RowsAt (H0 H : Hp) (R : Addr) (rs : List (List Int)) : Prop where
  at_ : ∃ as : List Addr, H R = some (.lst (as.map V.ref)) ∧ as.length = rs.length ∧ (∀ (i : Nat) (a : Addr) (r : List Int), as[i]? = some a → rs[i]? = some r → H a = some (.lst (r.map V.int))) ∧ ∀ a ∈ as, H0 a = none ∧ a ≠ R
theorem RowsAt.same {H0 H H' : Hp} {l : Addr} {ls : List (List Int)} (h : RowsAt H0 H l ls) (e : Same H H') : RowsAt H0 H' l ls := ⟨let ⟨ts, h1, h2, h3, h4⟩ := h.at_; ⟨ts, e _ _ h1, h2, fun i t y a b => e _ _ (h3 i t y a b), h4⟩⟩
theorem get_snoc {α β : Type} {xs : List α} {ys : List β} {x : α} {y : β} (hl : xs.length = ys.length) {p : α → β → Prop} (h : ∀ (i : Nat) (a : α) (b : β), xs[i]? = some a → ys[i]? = some b → p a b) (hx : p x y) : ∀ (i : Nat) (a : α) (b : β), (xs ++ [x])[i]? = some a → (ys ++ [y])[i]? = some b → p a b := fun i a b ha hb => by
  rcases Nat.lt_trichotomy i xs.length with lt | e | gt
  · rw [List.getElem?_append_left lt] at ha
    rw [List.getElem?_append_left (by omega)] at hb
    exact h i a b ha hb
  · subst e
    rw [List.getElem?_append_right (Nat.le_refl _), Nat.sub_self] at ha
    rw [List.getElem?_append_right (by omega), show xs.length - ys.length = 0 by omega] at hb
    cases ha; cases hb; exact hx
  · rw [List.getElem?_append_right (by omega), show i - xs.length = (i - xs.length - 1) + 1 by omega] at ha
    cases ha
theorem get_append {α β : Type} {xs xs' : List α} {ys ys' : List β} (hl : xs.length = ys.length) {p : α → β → Prop} (h : ∀ (i : Nat) (a : α) (b : β), xs[i]? = some a → ys[i]? = some b → p a b) (h' : ∀ (i : Nat) (a : α) (b : β), xs'[i]? = some a → ys'[i]? = some b → p a b) : ∀ (i : Nat) (a : α) (b : β), (xs ++ xs')[i]? = some a → (ys ++ ys')[i]? = some b → p a b := fun i a b ha hb => by
  rcases Nat.lt_or_ge i xs.length with lt | ge
  · rw [List.getElem?_append_left lt] at ha
    rw [List.getElem?_append_left (by omega)] at hb
    exact h i a b ha hb
  · rw [List.getElem?_append_right ge] at ha
    rw [List.getElem?_append_right (by omega), ← hl] at hb
    exact h' _ a b ha hb
theorem lay_all : ∀ ds : List PyData, (∀ d ∈ ds, d.canLay0 = true ∧ d.depth ≤ 1) → PyData.canLayAll0 ds = true ∧ PyData.depthAll ds ≤ 1
  | [], _ => ⟨rfl, by decide⟩
  | d :: ds, h => by
    have ih := lay_all ds fun e he => h e (List.mem_cons_of_mem _ he)
    have a := h d List.mem_cons_self
    refine ⟨?_, ?_⟩
    · show (d.canLay0 && PyData.canLayAll0 ds) = true
      rw [a.1, ih.1]; rfl
    · rw [PyData.depthAll]
      exact Nat.max_le.mpr ⟨a.2, ih.2⟩
theorem shaped_all {ds : List PyData} (h : ∀ d ∈ ds, d.canLay0 = true ∧ d.depth ≤ 1) : SeqAt.shaped (.list ds) = true := by
  have a := lay_all ds h
  unfold SeqAt.shaped
  rw [show (PyData.list ds).canLay0 = true from a.1, Bool.true_and]
  refine decide_eq_true ?_
  show PyData.depthAll ds + 1 ≤ 64
  omega
theorem eqv_none {ds : List PyData} : PyData.eqv (.list ds) (.list []) = decide (ds = []) := by cases ds <;> rfl
def limD (y : Int × Int) : PyData := .tuple [.int y.1, .int y.2]
theorem lim_lay : ∀ ls : List (Int × Int), ∀ d ∈ ls.map limD, d.canLay0 = true ∧ d.depth ≤ 1 := fun ls d hd => by
  obtain ⟨y, _, rfl⟩ := List.mem_map.mp hd
  exact ⟨rfl, Nat.le_refl _⟩
theorem lim_data {K : PySem.W.Frag} {H : Hp} : ∀ (ts : List Addr) (ls : List (Int × Int)), ts.length = ls.length → (∀ (i : Nat) (t : Addr) (y : Int × Int), ts[i]? = some t → ls[i]? = some y → H t = some (.tup [.int y.1, .int y.2])) → DpAll K H (ts.map V.ref) (ls.map limD)
  | [], [], _, _ => .nil
  | [], _ :: _, h, _ => by cases h
  | _ :: _, [], h, _ => by cases h
  | t :: ts, y :: ls, h, k => .cons (.tup (SqT.of (k 0 t y rfl rfl)) (.cons (.int _) (.cons (.int _) .nil))) (lim_data ts ls (Nat.succ.inj h) fun i t y a b => k (i + 1) t y a b)
theorem ups_len (a : Int) : ∀ n : Nat, (ups a n).length = n
  | 0 => rfl
  | n + 1 => by unfold ups; rw [List.length_cons, ups_len (a + 1) n]
theorem flat_few {α β : Type} (g : α → List β) (B : Nat) : ∀ xs : List α, (∀ x ∈ xs, (g x).length ≤ B) → (xs.flatMap g).length ≤ xs.length * B
  | [], _ => Nat.zero_le _
  | x :: xs, h => by
    have a := flat_few g B xs fun y hy => h y (List.mem_cons_of_mem _ hy)
    have b := h x List.mem_cons_self
    rw [List.flatMap_cons, List.length_append, List.length_cons, Nat.succ_mul]; omega
theorem rows_few : ∀ (ls : List (Int × Int)) (m : Int), (∀ y ∈ ls, 0 ≤ y.1) → m ≤ 7 → (rows ls m).length ≤ 8 ^ ls.length
  | [], m, _, _ => by
    unfold rows
    split <;> simp
  | l :: ls, m, h, hm => by
    unfold rows
    have a := h l List.mem_cons_self
    refine Nat.le_trans (flat_few _ (8 ^ ls.length) _ fun x hx => ?_) ?_
    · rw [List.length_map]
      have := (mem_ups _ _ _).mp hx
      exact rows_few ls _ (fun y hy => h y (List.mem_cons_of_mem _ hy)) (by omega)
    · rw [ups_len, List.length_cons, Nat.pow_succ, Nat.mul_comm]
      exact Nat.mul_le_mul_left _ (by omega)
theorem ups_snoc (a : Int) : ∀ n : Nat, ups a (n + 1) = ups a n ++ [a + n]
  | 0 => by show [a] = [] ++ [a + ((0 : Nat) : Int)]; simp
  | n + 1 => by
    show a :: ups (a + 1) (n + 1) = (a :: ups (a + 1) n) ++ _
    rw [ups_snoc (a + 1) n, List.cons_append]
    congr 3
    omega
def spRows (n : Nat) : Sp := fun vs H Q _ => ∃ (l : Addr) (ls : List (Int × Int)) (m : Int), vs = [.ref l, .int m] ∧ LimAt H l ls ∧ ls.length ≤ n ∧ (∀ y ∈ ls, 0 ≤ y.1 ∧ y.1 ≤ 60 ∧ 0 ≤ y.2 ∧ y.2 ≤ 60) ∧ 0 ≤ m ∧ m ≤ 7 ∧ ∀ H' R, Same H H' → H R = none → RowsAt H H' R (rows ls m) → Q (.ref R) H'
theorem cut_1 (x : V) (xs : List V) : cutV (x :: xs) (some 1) none = xs := by
  unfold cutV
  rw [show HT.sIx (x :: xs).length 0 (some 1) = 1 from by
    have := HT.sIx_nat (x :: xs).length 0 1
    rw [List.length_cons] at this ⊢
    rw [show (((1 : Nat) : Int)) = 1 from rfl] at this
    rw [this]; omega, HT.sIx_none]
  show (List.drop 1 (x :: xs)).take _ = xs
  rw [List.drop_succ_cons, List.drop_zero, List.length_cons, Nat.add_sub_cancel, List.take_length]
theorem ref_at {as : List Addr} {i : Nat} {x : V} (h : (as.map V.ref)[i]? = some x) : ∃ a, as[i]? = some a ∧ x = .ref a := by
  rw [List.getElem?_map] at h
  cases e : as[i]? with
  | none => rw [e] at h; cases h
  | some a => rw [e] at h; exact ⟨a, rfl, (Option.some.inj h).symm⟩
def spPrev : Nat → Sp
  | 0 => fun _ _ _ _ => False
  | n + 1 => spRows n
section
variable {P : Program} {w : World} {K : PySem.W.Frag} {mg : Str → Option Value} {base : Heap} {c : Cs}
abbrev sRows : Stmt := top 38
abbrev nRows : List Str := ["limits", "many", "found", "load", "rest"]
theorem scRows : FnScope nRows ["limits", "many"] (defScope sRows) := ⟨rfl, rfl, rfl, by decide +kernel, rfl, by decide +kernel, by decide +kernel⟩
theorem ok_rowsS {n : Nat} {f : Addr} {fd : FuncData} (n6 : n ≤ 6) (F : Fun K "_law_rows" "_law_rows" sRows f fd) (T : TxD mg) (A_law_rows : At K mg "_law_rows" f) (G_law_rows : FnOk P w K mg base CX0 (n + 1) f fd ["limits", "many"] (spPrev n)) (b_law_rows : Binds K fd ["limits", "many"] []) : FnOk P w K mg base CX0 (n + 2) f fd ["limits", "many"] (spRows n) := by
  refine F.ok scRows (fun vs H Q E h => ?_) (fun cdv A outer s H vs Q E hr h => ?_)
  · obtain ⟨l, ls, m, rfl, _⟩ := h
    rfl
  · obtain ⟨l, ls, m, rfl, hl, few, okl, m0, m7, k⟩ := h
    have nd := scRows.nd
    have hu := hr.units
    have hr_law_rows : Room (n + 1) _ := hr
    refine ⟨_, (pss_cons (ps_if (pt_cmpR (op_eqD hu) (pv 0) (pe_lst pa_nil) (nomark _))
        (pss_one (ps_ret (pe_ifExp (pt_cmpR op_eq (pv 1) pe_int (nomark _)) (pe_lst (pa_cons (pe_lst pa_nil) pa_nil)) (pe_lst pa_nil))))
        pss_nil)
      (pss_cons (ps_set (i := 2) nd rfl (Or.inl rfl) (pe_lst pa_nil))
      (pss_cons (ps_for PassesOwn.never rfl (pi_range2 (by rfl) T.range (pa_cons (pe_ix ix_tup (pe_ix ix_list (pv 0) pe_int (fun _ _ => rfl)) pe_int (fun _ _ => rfl)) (pa_cons (pe_op op_add (pe_callB (call_min2 rfl) (by rfl) T.min (by decide +kernel) (pa_cons (pe_ix ix_tup (pe_ix ix_list (pv 0) pe_int (fun _ _ => rfl)) pe_int (fun _ _ => rfl)) (pa_cons (pv 1) pa_nil))) pe_int) pa_nil))) (pg_name (i := 3) nd rfl (Or.inr rfl))
        (pss_one (ps_aug (i := 2) nd rfl (Or.inl rfl) (pe_lc (own := [("rest", 4)]) (by rfl) nd (pi_list (pe_call G_law_rows hr_law_rows (by rfl) A_law_rows.g A_law_rows.k b_law_rows .nil pass0 (pa_cons (pe_slice sl_list (pv 0) (po_some pe_int) po_none) (pa_cons (pe_op op_sub (pv 1) (pv 3)) pa_nil)))) (blkOk_by (N := nRows) (sc := defScope sRows) (by decide +kernel)) (fun _ _ _ _ _ => (pg_name (i := 4) nd rfl (Or.inl rfl))) (fun _ _ _ _ _ => pts_nil) (fun _ _ _ _ _ => (pe_op op_cat (pe_lst (pa_cons (pv 3) pa_nil)) (pv 4)))) iop_ext)))
      (pss_one (ps_ret (pv 2)))))), ?_⟩
    obtain ⟨ts, h1, h2, h3⟩ := hl.at_
    refine ⟨_, rfl, Nat.zero_le _, fun Z nZ => ?_⟩
    have e1 : Same H (upd H Z (.lst [])) := made nZ
    refine ⟨.list (ls.map limD), .list [], .lst (SqL.of (e1 _ _ h1)) (lim_data ts ls h2 fun i t y a b => e1 _ _ (h3 i t y a b)), .lst (SqL.of upd_same) .nil, shaped_all (lim_lay ls), rfl, _, rfl, ?_⟩
    rw [eqv_none]
    generalize upd H Z (.lst []) = H1 at e1
    cases ls with
    | nil =>
      refine iteT ⟨_, rfl, rfl, _, rfl, ?_⟩
      by_cases c1 : m = 0
      · refine iteT' (decide_eq_true (by rw [c1])) ⟨Nat.zero_le _, fun a na => ⟨by show 1 ≤ sizeLine; decide, fun b nb => ?_⟩⟩
        have e2 : Same H1 (upd H1 a (.lst [])) := made na
        have ha : (upd H1 a (.lst [])) a = some (.lst []) := upd_same
        refine k _ b (e1.trans (e2.trans (made nb))) (e1.free (e2.free nb)) ?_
        rw [show rows [] m = [[]] by unfold rows; rw [if_pos c1]]
        have nab : a ≠ b := fun q => by rw [← q, ha] at nb; cases nb
        refine ⟨[a], upd_same, rfl, fun i a' r h1 h2 => ?_, fun a' h => ?_⟩
        · cases i with
          | zero => cases h1; cases h2; rw [upd_ne nab]; exact ha
          | succ i => cases h1
        · rw [List.mem_singleton.mp h]; exact ⟨e1.free na, nab⟩
      · refine iteF' (fun z => c1 (V.int.inj (of_decide_eq_true z))) ⟨Nat.zero_le _, fun b nb => ?_⟩
        refine k _ b (e1.trans (made nb)) (e1.free nb) ?_
        rw [show rows [] m = [] by unfold rows; rw [if_neg c1]]
        exact ⟨[], upd_same, rfl, fun i a' r h1 h2 => (by cases h1), fun a' h => (by cases h)⟩
    | cons y ls =>
      refine iteF ?_
      unfold tNext
      dsimp only
      cases ts with
      | nil => cases h2
      | cons t0 ts =>
      have l1 := e1 _ _ h1
      have t01 := e1 _ _ (h3 0 t0 y rfl rfl)
      refine into ⟨Nat.zero_le _, fun R nR => ?_⟩
      have e2 : Same H1 (upd H1 R (.lst [])) := made nR
      have hR2 : (upd H1 R (.lst [])) R = some (.lst []) := upd_same
      have l2 := e2 _ _ l1
      have t02 := e2 _ _ t01
      have e12 := e1.trans e2
      have nR0 : H R = none := e1.free nR
      generalize upd H1 R (.lst []) = H2 at e2 hR2 l2 t02 e12 ⊢
      have oy := okl y List.mem_cons_self
      refine into ⟨_, rfl, l, _, _, .ref t0, rfl, rfl, SqL.of l2, atI_nat (j := 0) rfl, t0, _, _, .int y.1, rfl, rfl, SqT.of t02, atI_nat (j := 0) rfl, _, rfl, l, _, _, .ref t0, rfl, rfl, SqL.of l2, atI_nat (j := 0) rfl, t0, _, _, .int y.2, rfl, rfl, SqT.of t02, atI_nat (j := 1) rfl, _, rfl, _, _, rfl, _, _, rfl, rfl, _, _, rfl, ⟨?_, ?_, ?_, ?_⟩, ?_⟩
      · omega
      · omega
      · split <;> omega
      · split <;> omega
      have en : (((if m < y.2 then m else y.2) + 1) - y.1).toNat = (min y.2 m + 1 - y.1).toNat := by split <;> (congr 1; omega)
      rw [en]
      obtain ⟨n, rfl⟩ : ∃ n', n = n' + 1 := ⟨n - 1, by rw [List.length_cons] at few; omega⟩
      rw [List.length_cons] at few
      have pw : 8 ^ ls.length ≤ 32768 := Nat.le_trans (Nat.pow_le_pow_right (by decide) (show ls.length ≤ 5 by omega)) (by decide)
      have low : ∀ z ∈ ls, 0 ≤ z.1 := fun z hz => (okl z (List.mem_cons_of_mem _ hz)).1
      refine for_range (lo := y.1) (n := (min y.2 m + 1 - y.1).toNat) (fun j σ H' => (∃ y3 y4, σ = [some (.ref l), some (.int m), some (.ref R), y3, y4]) ∧ RowsAt H H' R ((ups y.1 j).flatMap fun x => (rows ls (m - x)).map (x :: ·)) ∧ ∀ b o, H b = some o → H' b = some o) ⟨⟨_, _, rfl⟩, ⟨[], hR2, rfl, fun i a r q => (by cases q), fun a q => (by cases q)⟩, fun b o z => e12 _ _ z⟩ ?_ ?_
      · rintro j σ H' hj ⟨⟨y3, y4, rfl⟩, RA, ke⟩
        obtain ⟨as, r1, r2, r3, r4⟩ := RA.at_
        refine ⟨_, rfl, _, rfl, 1, rfl, l, _, rfl, SqL.of (ke _ _ h1), fun q nq => ?_⟩
        have e3 : Same H' (upd H' q (.lst (cutV (List.map V.ref (t0 :: ts)) (some 1) none))) := made nq
        have hq : (upd H' q (.lst (cutV (List.map V.ref (t0 :: ts)) (some 1) none))) q = some (.lst (ts.map V.ref)) := by rw [upd_same, List.map_cons, cut_1]
        generalize upd H' q (.lst (cutV (List.map V.ref (t0 :: ts)) (some 1) none)) = Hq at e3 hq ⊢
        refine ⟨_, rfl, _, rfl, _, _, rfl, rfl, q, ls, m - (y.1 + j), rfl, ⟨ts, hq, Nat.succ.inj h2, fun i t z a b => e3 _ _ (ke _ _ (h3 (i + 1) t z a b))⟩, by omega, fun z hz => okl z (List.mem_cons_of_mem _ hz), by omega, by omega, fun H4 R2 e4 nR2 hR2 => ?_⟩
        obtain ⟨bs, b1, b2, b3, b4⟩ := hR2.at_
        have rf := rows_few ls (m - (y.1 + j)) low (by omega)
        refine ⟨R2, rfl, ⟨_, SqL.of b1⟩, fun D nD => lc_list (K := K) (a := R2) (xs := bs.map V.ref) (fun i H5 => RowsAt Hq H5 D (((rows ls (m - (y.1 + j))).take i).map ((y.1 + j) :: ·)) ∧ Same H4 H5) ⟨⟨[], upd_same, rfl, fun i a r q => (by cases q), fun a q => (by cases q)⟩, made nD⟩ (fun i H5 _ ⟨_, e⟩ => SqL.of (e _ _ b1)) ?_ ?_⟩
        · rintro i xv H5 hx ⟨RD, e5⟩
          obtain ⟨a, ha, rfl⟩ := ref_at hx
          have lt : i < (rows ls (m - (y.1 + j))).length := by have := (List.getElem?_eq_some_iff.mp ha).1; omega
          obtain ⟨r, hr'⟩ : ∃ r, (rows ls (m - (y.1 + j)))[i]? = some r := ⟨_, List.getElem?_eq_getElem lt⟩
          have har := e5 _ _ (b3 i a r ha hr')
          obtain ⟨ds, d1, d2, d3, d4⟩ := RD.at_
          have rl : r.length ≤ 10 := by
            have := (mem_rows ls _ r low).mp (List.mem_of_getElem? hr')
            have il : ∀ (ls : List (Int × Int)) (r : List Int), InL ls r → r.length = ls.length := by
              intro ls
              induction ls with
              | nil => intro r h; cases r with
                | nil => rfl
                | cons _ _ => exact h.elim
              | cons z zs ih => intro r h; cases r with
                | nil => exact h.elim
                | cons w ws => rw [List.length_cons, List.length_cons, ih ws h.2.2]
            rw [il ls r this.1]; omega
          refine ⟨rfl, _, rfl, by show 1 ≤ sizeLine; decide, fun s1 n1 => ⟨_, rfl, s1, a, _, _, rfl, rfl, upd_same, made n1 _ _ har, by rw [List.length_map, sizeLine_eq]; show 1 + r.length ≤ _; omega, fun p np => ?_⟩⟩
          have e6 : Same H5 (upd (upd H5 s1 (.lst [.int (y.1 + j)])) p (.lst ([.int (y.1 + j)] ++ r.map V.int))) := (made n1).trans (made np)
          have hp : (upd (upd H5 s1 (.lst [.int (y.1 + j)])) p (.lst ([.int (y.1 + j)] ++ r.map V.int))) p = some (.lst (((y.1 + j) :: r).map V.int)) := upd_same
          have np5 : H5 p = none := (made n1).free np
          generalize upd (upd H5 s1 (.lst [.int (y.1 + j)])) p (.lst ([.int (y.1 + j)] ++ r.map V.int)) = H6 at e6 hp ⊢
          have pD : p ≠ D := fun z => by rw [z, d1] at np5; cases np5
          rw [List.length_map, List.length_take] at d2
          refine ⟨_, e6 _ _ d1, by rw [List.length_map, sizeLine_eq]; omega, ⟨ds ++ [p], by rw [upd_same, List.map_append]; rfl, by rw [List.length_append, d2, List.length_map, List.length_take]; show _ + 1 = _; omega, ?_, ?_⟩, put_in (e5.trans e6) nD⟩
          · rw [take_snoc hr', List.map_append]
            refine get_snoc (by rw [d2, List.length_map, List.length_take]) (fun i' a' r' q1 q2 => ?_) ?_
            · have z := e6 _ _ (d3 i' a' r' q1 q2)
              rw [upd_ne (d4 a' (List.mem_of_getElem? q1)).2]; exact z
            · rw [upd_ne pD]; exact hp
          · intro a' h
            rcases List.mem_append.mp h with z | z
            · exact d4 a' z
            · rw [List.mem_singleton.mp z]; exact ⟨e4.free (e5.free np5), pD⟩
        · rintro H5 ⟨RD, e5⟩
          rw [List.length_map, b2, List.take_length] at RD
          obtain ⟨ds, d1, d2, d3, d4⟩ := RD.at_
          have e35 := e3.trans (e4.trans e5)
          have r15 := e35 _ _ r1
          have nR : ∀ a ∈ ds, a ≠ R := fun a ha z => by
            have := (d4 a ha).1
            rw [z, e3 _ _ r1] at this; cases this
          have fl := flat_few (fun x => (rows ls (m - x)).map (x :: ·)) (8 ^ ls.length) (ups y.1 j) fun x hx => by
            rw [List.length_map]
            have := (mem_ups _ _ _).mp hx
            exact rows_few ls _ low (by omega)
          rw [ups_len] at fl
          have j8 : j * 8 ^ ls.length ≤ 8 * 32768 := Nat.mul_le_mul (by omega) pw
          rw [List.length_map] at d2
          refine ⟨R, D, _, _, rfl, rfl, r15, d1, by rw [List.length_map, List.length_map, r2, d2, sizeLine_eq]; omega, ⟨_, _, rfl⟩, ⟨as ++ ds, by rw [upd_same, List.map_append], ?_, ?_, ?_⟩, fun b o z => ?_⟩
          · rw [ups_snoc, List.flatMap_append, List.length_append, List.length_append, r2, d2]
            simp
          · rw [ups_snoc, List.flatMap_append]
            refine get_append r2 (fun i a r q1 q2 => ?_) (fun i a r q1 q2 => ?_)
            · rw [upd_ne (r4 a (List.mem_of_getElem? q1)).2]
              exact e35 _ _ (r3 i a r q1 q2)
            · rw [upd_ne (nR a (List.mem_of_getElem? q1))]
              rw [List.flatMap_cons, List.flatMap_nil, List.append_nil] at q2
              exact d3 i a r q1 q2
          · intro a h
            rcases List.mem_append.mp h with z | z
            · exact r4 a z
            · refine ⟨?_, nR a z⟩
              have := e3.free (d4 a z).1
              cases hh : H a with
              | none => rfl
              | some o => rw [ke _ _ hh] at this; cases this
          · rw [upd_ne (ne_of_none z nR0)]
            exact e35 _ _ (ke b o z)
      · rintro σ H' ⟨⟨y3, y4, rfl⟩, RA, ke⟩
        exact ⟨_, rfl, k H' R (fun b o z => ke b o z) nR0 RA⟩
theorem ok_rows {f : Addr} {fd : FuncData} (F : Fun K "_law_rows" "_law_rows" sRows f fd) (T : TxD mg) (A_law_rows : At K mg "_law_rows" f) (b_law_rows : Binds K fd ["limits", "many"] []) : ∀ n : Nat, n ≤ 6 → FnOk P w K mg base CX0 (n + 2) f fd ["limits", "many"] (spRows n)
  | 0, h => ok_rowsS h F T A_law_rows ⟨fun vs H Q E h => h.elim, fun A outer s H args us vs Q E hr e0 hb r h => h.elim⟩ b_law_rows
  | n + 1, h => ok_rowsS h F T A_law_rows (ok_rows F T A_law_rows b_law_rows n (by omega)) b_law_rows
end
end KD
end
section
set_option maxHeartbeats 1000000
/-! min of a list of tuples of ints. -/
namespace L2
open PySem PySem.Spec PyProof.Rows PySem.W
/-- what a walk that only makes objects of its own leaves -/
abbrev Keeps (h h' : Heap) : Prop := ∀ c o, h.get? c = some o → h'.get? c = some o
/-- ahead of a turn of min: the iterator I stands at k, the keeper S holds the best one so far, if there is one -/
structure MinAt (g h : Heap) (I S l : Addr) (k : Nat) (best : Option Value) : Prop where
  old : Keeps g h
  iter : h.IsListIter I l k
  held : ∃ c, h.get? S = some { cls := .type "list", dict := none, data := .seq (match best with | none => #[] | some b => #[b, b]) c, slots := #[] }
section
variable {prog : Program} {w : World} {A : Around} {E : Value → Shared → Prop} {s : Shared} {R : Result → Shared → Prop} {I S l : Addr} {its : Array Value} {bt : Nat → Nat → Bool}
theorem name_min : (toString "min" ++ toString ".loop" : String) = "min.loop" := by decide
theorem MinAt.step {g h h1 : Heap} {k k' : Nat} {b : Option Value} (m : MinAt g h I S l k b) (fI : g.get? I = none) (ne : S ≠ I) (sb : Heap.SameBut I h h1) (it : h1.IsListIter I l k') : MinAt g h1 I S l k' b :=
  have ⟨c, hS⟩ := m.held
  ⟨fun a o e => sb.extBut a o (fun z => by rw [z, fI] at e; cases e) (m.old a o e), it, c, sb.extBut S _ ne hS⟩
theorem MinAt.hold {g h : Heap} {k : Nat} {b : Option Value} {v : Value} (m : MinAt g h I S l k b) (fS : g.get? S = none) (ne : S ≠ I) : MinAt g (h.update S (Obj.mapSeq fun _ => #[v, v])) I S l k (some v) :=
  have ⟨c, hS⟩ := m.held
  ⟨fun a o e => (Heap.get?_update_other _ _ fun z => by rw [z, e] at fS; cases fS).trans (m.old a o e), m.iter.at fun o e => (Heap.get?_update_other _ _ ne).trans e, _, Heap.get?_update_self _ hS rfl⟩
/-- all turns behind the first one -/
theorem min_turns (calm : A.handled = none) (hl : s.heap.IsList l its) (fI : s.heap.get? I = none) (fS : s.heap.get? S = none) (ne : S ≠ I)
    (cmp : ∀ i j vi vj (t : Shared) (Q : Value → Shared → Prop) (E : Value → Shared → Prop), its[i]? = some vi → its[j]? = some vj → Keeps s.heap t.heap → Q (.bool (bt i j)) t → wpAny (model prog w) A.in1 (richCompare .Lt vi vj) Q E t)
    (fin : ∀ v h tk, its[argBest bt (its.size - 1)]? = some v → Keeps s.heap h → R (.ok (.ret v)) { s with heap := h, toks := tk }) (left : Nat) :
    ∀ (j : Nat) (h : Heap) (tk : Nat) (b : Value), its.size = j + 1 + left → MinAt s.heap h I S l (j + 1) (some b) → its[argBest bt j]? = some b → codeAny (model prog w) A (.builtin "min.loop" ⟨[.ref I, .none, .ref S], []⟩) R { s with heap := h, toks := tk } := by
  have lI : l ≠ I := fun z => by obtain ⟨o, e, _⟩ := hl; rw [z, fI] at e; cases e
  induction left with
  | zero =>
    intro j h tk b sz m hb
    obtain ⟨c, hS⟩ := m.held
    refine codeAny_builtin PySem.F.entry_min_loop ?_
    rw [Around.under_plainId PySem.F.plain_min_loop]
    refine wpAny_bind (m := seqItems? (.ref S)) (wpAny_seqItems hS rfl ?_)
    refine wpAny_bind (m := Sem.tryCatch (pyNext (.ref I)) _) (wpAny_tryCatch ?_)
    refine wpAny_pyNext_list_end calm m.iter (hl.at fun o e => m.old l o e) (Array.getElem?_eq_none (by omega)) fun h1 ext => ?_
    have hS1 := ext S _ ne hS
    refine wpAny_bind (m := updateSeq S _) (wpAny_updateSeq hS1 rfl (wpAny_bind (wpAny_letGo (wpAny_pure (fin b _ tk ?_ fun a o e => ?_)))))
    · rw [show its.size - 1 = j by omega]; exact hb
    · have aI : a ≠ I := fun z => by rw [z, fI] at e; cases e
      have aS : S ≠ a := fun z => by rw [← z, fS] at e; cases e
      exact (Heap.get?_update_other _ _ aS).trans (ext a o aI (m.old a o e))
  | succ left ih =>
    intro j h tk b sz m hb
    obtain ⟨c, hS⟩ := m.held
    have lt : j + 1 < its.size := by omega
    have hv : its[j + 1]? = some its[j + 1] := Array.getElem?_eq_getElem lt
    generalize its[j + 1] = v at hv
    refine codeAny_builtin PySem.F.entry_min_loop ?_
    rw [Around.under_plainId PySem.F.plain_min_loop]
    refine wpAny_bind (m := seqItems? (.ref S)) (wpAny_seqItems hS rfl ?_)
    refine wpAny_bind (m := Sem.tryCatch (pyNext (.ref I)) _) (wpAny_tryCatch ?_)
    refine wpAny_pyNext_list_item m.iter (hl.at fun o e => m.old l o e) hv fun h1 it1 sb => ?_
    have m1 := m.step fI ne sb it1
    obtain ⟨c1, hS1⟩ := m1.held
    refine wpAny_bind (m := Sem.tryCatch (holding [v, v] _) _) (wpAny_tryCatch (wpAny_holding (wpAny_bind ?_)))
    refine cmp (j + 1) (argBest bt j) v b _ _ _ hv hb m1.old ?_
    refine wpAny_bind (wpAny_holding (wpAny_truthy_bool (wpAny_bind (wpAny_letGo (wpAny_pure ?_)))))
    cases less : bt (j + 1) (argBest bt j) with
    | true =>
      simp only [if_true]
      refine wpAny_bind (m := updateSeq S _) (wpAny_updateSeq hS1 rfl (wpAny_bind (wpAny_letGo ?_)))
      rw [name_min]
      refine wpAny_pure ⟨plainId_quiet PySem.F.plain_min_loop _, ih (j + 1) _ tk v (by omega) (m1.hold fS ne) ?_⟩
      show its[if bt (j + 1) (argBest bt j) then j + 1 else argBest bt j]? = _
      rw [less]; exact hv
    | false =>
      simp only [Bool.false_eq_true, if_false]
      refine wpAny_bind (wpAny_letGo ?_)
      rw [name_min]
      refine wpAny_pure ⟨plainId_quiet PySem.F.plain_min_loop _, ih (j + 1) _ tk b (by omega) m1 ?_⟩
      show its[if bt (j + 1) (argBest bt j) then j + 1 else argBest bt j]? = _
      rw [less]; exact hb
theorem min_all (calm : A.handled = none) (hl : s.heap.IsList l its) (some_ : 0 < its.size) {Q : Value → Shared → Prop}
    (cmp : ∀ i j vi vj (t : Shared) (Q : Value → Shared → Prop) (E : Value → Shared → Prop), its[i]? = some vi → its[j]? = some vj → Keeps s.heap t.heap → Q (.bool (bt i j)) t → wpAny (model prog w) A.in1 (richCompare .Lt vi vj) Q E t)
    (fin : ∀ v h tk, its[argBest bt (its.size - 1)]? = some v → Keeps s.heap h → Q v { s with heap := h, toks := tk }) : wpAny (model prog w) A (call (.builtin "min") [.ref l]) Q E s := by
  refine call_function_tree PySem.F.kind_min PySem.F.plain_min PySem.F.entry_min (PySem.F.args_min1 _) ?_
  refine wpAny_bind (m := Builtin.Builtins.bindParams "min" ["key", "default"] 0 ⟨[], []⟩) (wpAny_of_eq (a := [none, none]) rfl (wpAny_bind (wpAny_pure ?_)))
  refine wpAny_bind (m := pyIter (.ref l)) (wpAny_pyIter_list hl (wpAny_bind (wpAny_newObj_type ?_)))
  have fI : s.heap.get? s.heap.objs.size = none := Heap.get?_none_of_le (Nat.le_refl _)
  have fS : s.heap.get? (s.heap.objs.size + 1) = none := Heap.get?_none_of_le (Nat.le_succ _)
  generalize hs : s.heap.objs.size = I at fI fS
  generalize hS : I + 1 = S at fS
  have ne : S ≠ I := by omega
  have sz : (s.heap.push { cls := .type "list_iterator", data := .fields #[.ref l, .int 0 0] }).objs.size = S := by rw [Heap.size_push, hs, hS]
  rw [name_min, sz]
  refine wpAny_pure ⟨plainId_quiet PySem.F.plain_min_loop _, codeAny_builtin PySem.F.entry_min_loop ?_⟩
  rw [Around.under_plainId PySem.F.plain_min_loop]
  have hI0 : ((s.heap.push { cls := .type "list_iterator", data := .fields #[.ref l, .int 0 0] }).push { cls := .type "list", data := .seq #[] }).IsListIter I l 0 := ⟨_, Heap.get?_push_of_some _ (hs ▸ Heap.get?_push_size _ rfl), rfl, rfl⟩
  have m : MinAt s.heap ((s.heap.push { cls := .type "list_iterator", data := .fields #[.ref l, .int 0 0] }).push { cls := .type "list", data := .seq #[] }) I S l 0 none :=
    ⟨fun c o e => Heap.get?_push_of_some _ (Heap.get?_push_of_some _ e), hI0, 0, by rw [← sz]; exact Heap.get?_push_size _ rfl⟩
  generalize ((s.heap.push { cls := .type "list_iterator", data := .fields #[.ref l, .int 0 0] }).push { cls := .type "list", data := .seq #[] }) = g at m
  obtain ⟨c, hS0⟩ := m.held
  have hv : its[0]? = some its[0] := Array.getElem?_eq_getElem some_
  generalize its[0] = v at hv
  refine wpAny_bind (m := seqItems? (.ref S)) (wpAny_seqItems hS0 rfl ?_)
  refine wpAny_bind (m := Sem.tryCatch (pyNext (.ref I)) _) (wpAny_tryCatch ?_)
  refine wpAny_pyNext_list_item m.iter (hl.at fun o e => m.old l o e) hv fun h1 it1 sb => ?_
  have m1 := m.step fI ne sb it1
  obtain ⟨c1, hS1⟩ := m1.held
  refine wpAny_bind (m := updateSeq S _) (wpAny_updateSeq hS1 rfl ?_)
  rw [name_min]
  exact wpAny_pure ⟨plainId_quiet PySem.F.plain_min_loop _, min_turns calm hl fI fS ne cmp (fun v h tk a b => fin v h tk a b) (its.size - 1) 0 _ _ v (by omega) (m1.hold fS ne) hv⟩
end
/-! ### by values -/
section
variable {X : Cx}
theorem best_least (row : Nat → List Int) : ∀ n j, j ≤ n → HT.lexLt (row j) (row (argBest (fun i j => HT.lexLt (row i) (row j)) n)) = false
  | 0, j, h => by
    rw [Nat.le_zero.mp h]
    cases e : HT.lexLt (row 0) (row 0) with
    | false => exact e
    | true => have := NtL.lex_asym _ _ e; rw [e] at this; cases this
  | n + 1, j, h => by
    have ih := best_least row n
    unfold argBest
    cases e : HT.lexLt (row (n + 1)) (row (argBest (fun i j => HT.lexLt (row i) (row j)) n)) with
    | true =>
      simp only [if_true]
      rcases Nat.lt_or_ge n j with c | c
      · rw [show j = n + 1 by omega]
        cases e2 : HT.lexLt (row (n + 1)) (row (n + 1)) with
        | false => rfl
        | true => have := NtL.lex_asym _ _ e2; rw [e2] at this; cases this
      · exact NtL.lex_tr _ _ _ (NtL.lex_asym _ _ e) (ih j c)
    | false =>
      simp only [Bool.false_eq_true, if_false]
      rcases Nat.lt_or_ge n j with c | c
      · rw [show j = n + 1 by omega]; exact e
      · exact ih j c
/-- min(xs) of a list of tuples of ints -/
def rMinT (K : PySem.W.Frag) : List V → Hp → VK → Prop := fun vs H Q => ∃ (a : Addr) (n : Nat) (t : Nat → Addr) (row : Nat → List Int), vs = [V.ref a] ∧ SqL K H a ((List.range (n + 1)).map fun i => V.ref (t i)) ∧ (∀ i, i ≤ n → SqT K H (t i) ((row i).map V.int)) ∧
  ∀ i, i ≤ n → (∀ j, j ≤ n → HT.lexLt (row j) (row i) = false) → Q (.ref (t i)) H
theorem cr_minT (hc : X.calm = true) (hu : X.A.in1.units < cLine) : CallR X (.builtin "min") (rMinT X.K) := by
  intro pins s σ H vs us Q I r h
  obtain ⟨a, n, t, row, rfl, hs, tups, q⟩ := h
  obtain ⟨its, rv, pl, _⟩ := I.list hs
  rw [Vals.ref1 r]
  have len : its.length = n + 1 := by rw [← rv.length, List.length_map, List.length_range]
  have item : ∀ i v, its.toArray[i]? = some v → i ≤ n ∧ v = Value.ref (t i) := fun i v e => by
    have e' : its[i]? = some v := by simpa using e
    have lt : i < its.length := (List.getElem?_eq_some_iff.mp e').1
    have le : i ≤ n := by omega
    have ev : ((List.range (n + 1)).map fun i => V.ref (t i))[i]? = some (V.ref (t i)) := by rw [List.getElem?_map, List.getElem?_range (by omega)]; rfl
    obtain ⟨u, hu, ru⟩ := rv.get ev
    rw [hu] at e'
    cases e'
    exact ⟨le, ru⟩
  have calm : X.A.handled = none := I.ok.hd hc
  refine min_all (bt := fun i j => HT.lexLt (row i) (row j)) calm pl.isList (by simp; omega) (fun i j vi vj g Q' E' hi hj kp z => ?_) (fun v h tk hv kp => ?_)
  · obtain ⟨li, rfl⟩ := item i vi hi
    obtain ⟨lj, rfl⟩ := item j vj hj
    obtain ⟨ii, ri, pi, _⟩ := I.tuple (tups i li)
    obtain ⟨ij, rj, pj, _⟩ := I.tuple (tups j lj)
    have at' : ∀ {b : Addr} {xs : Array Value}, IsTup s.heap b xs → IsTup g.heap b xs := fun ⟨o, e, c, k, d⟩ => ⟨o, kp _ _ e, c, k, d⟩
    exact HT.lt_tupInts (at' pi) (at' pj) (intsAre_of ri) (intsAre_of rj) hu z
  · obtain ⟨le, rfl⟩ := item _ v hv
    have sz : its.toArray.size - 1 = n := by simp; omega
    rw [sz] at le hv ⊢
    exact ⟨.ref _, H, I.kept kp, rfl, q _ le fun j hj => best_least row n j hj⟩
end
end L2
end
section
set_option maxHeartbeats 1000000
/-! zip of a tuple and a list. -/
namespace L2
open PySem PySem.Spec PyProof.Rows PySem.W
/-- what zip(tuple, list) has made: the two iterators, its two tuples, itself -/
structure MixZip (h : Heap) (n a b : Addr) : Prop where
  zip : IsZip h (n + 4) (n + 2) (n + 3) .none
  inner : IsTupOf2 h (n + 2) (.ref n) (.ref (n + 1))
  out : IsTupOf2 h (n + 3) .none .none
  one : h.IsTupleIter n a 0
  two : h.IsListIter (n + 1) b 0
theorem mix_made (g : Heap) (a b : Addr) : MixZip (((((g.push { cls := .type "tuple_iterator", data := .fields #[.ref a, .int 0 0] }).push { cls := .type "list_iterator", data := .fields #[.ref b, .int 0 0] }).push { cls := .type "tuple", data := .seq #[.ref g.objs.size, .ref (g.objs.size + 1)] }).push
    { cls := .type "tuple", data := .seq #[.none, .none] }).push { cls := .type "zip", data := .fields #[.none, .bool false, .bool false, .ref (g.objs.size + 2), .ref (g.objs.size + 3)] }) g.objs.size a b := by
  have up : ∀ {h : Heap} {c : Addr} {o x : Obj}, h.get? c = some o → (h.push x).get? c = some o := fun e => Heap.get?_push_of_some _ e
  have new : ∀ (h : Heap) (o : Obj) (c : Addr), h.objs.size = c → o.isFreed = false → (h.push o).get? c = some o := fun h o c e f => by subst e; exact Heap.get?_push_size _ f
  refine ⟨new _ _ _ (by simp only [Heap.size_push]) rfl, up (up (new _ _ _ (by simp only [Heap.size_push]) rfl)), up (new _ _ _ (by simp only [Heap.size_push]) rfl), ⟨_, up (up (up (up (new _ _ _ rfl rfl)))), rfl, rfl⟩, ⟨_, up (up (up (new _ _ _ (by simp only [Heap.size_push]) rfl))), rfl, rfl⟩⟩
theorem new_mix (a b : Addr) (xs ys : Array Value) : Meets (Builtin.«zip.__new__» ⟨[.type "zip", .ref a, .ref b], []⟩) (fun _ R s => s.heap.IsTuple a xs ∧ s.heap.IsList b ys ∧
      ∀ h', MixZip h' s.heap.objs.size a b → Keeps s.heap h' → R (.ok (.ret (.ref (s.heap.objs.size + 4)))) { s with heap := h' }) :=
  .of_wp fun prog w A R s h => by
    obtain ⟨g, gs, dr, tk, os⟩ := s
    obtain ⟨ha, hb, h⟩ := h
    have sub := sub_zip
    have a1 : Heap.IsTuple (Shared.heap ⟨g, gs, dr, tk, os⟩) a xs := ha
    have b1 : Heap.IsList (Shared.heap ⟨g.push { cls := .type "tuple_iterator", data := .fields #[.ref a, .int 0 0] }, gs, dr, tk, os⟩) b ys := Heap.IsList.push hb _
    wp_walk using wpAny_pyIter_tuple a1, wpAny_pyIter_list b1
    have q := h _ (mix_made g a b) fun c o e => Heap.get?_push_of_some _ (Heap.get?_push_of_some _ (Heap.get?_push_of_some _ (Heap.get?_push_of_some _ (Heap.get?_push_of_some _ e))))
    refine ⟨_, rfl, ?_⟩
    simp only [Heap.size_push]
    exact q
section
variable {prog : Program} {w : World} {A : Around} {E : Value → Shared → Prop} {s : Shared}
theorem call_mix {a b : Addr} {xs ys : Array Value} {Q : Value → Shared → Prop} (ha : s.heap.IsTuple a xs) (hb : s.heap.IsList b ys) (h : ∀ h', MixZip h' s.heap.objs.size a b → Keeps s.heap h' → Q (.ref (s.heap.objs.size + 4)) { s with heap := h' }) :
    wpAny (model prog w) A (call (.type "zip") [.ref a, .ref b]) Q E s :=
  callType_new PySem.F.called_zip (by decide) (PySem.F.typeCall_zip_2 _ _) (PySem.F.newCall_zip_2 _ _) (fun o => PySem.F.args_object_init_3 o _ _) PySem.F.entry_zip_new (new_mix a b xs ys) ⟨ha, hb, fun h' m k => ⟨⟨_, m.zip, rfl⟩, h h' m k⟩⟩
end
/-- a tuple's and a list's items in new pairs, as both stand at each turn; both are gone through by the same number of turns -/
def ItMix (K : PySem.W.Frag) (a b : Addr) : It :=
  ⟨fun i H => ∃ xs ys : List V, SqT K H a xs ∧ SqL K H b ys ∧ i < xs.length ∧ i < ys.length,
    fun i H v H' => ∃ (T : Addr) (x y : V), v = .ref T ∧ H T = none ∧ H' = upd H T (.tup [x, y]) ∧ (∀ xs, SqT K H a xs → xs[i]? = some x) ∧ ∀ ys, SqL K H b ys → ys[i]? = some y,
    fun i H => ∃ xs ys : List V, SqT K H a xs ∧ SqL K H b ys ∧ i ≤ xs.length ∧ i ≤ ys.length ∧ (i = xs.length ∨ i = ys.length)⟩
structure MixApart (z TI TO i1 i2 a b : Addr) : Prop where
  sep : ZipSep2 z TI TO i1 i2 [i1, a] [i2, b]
  i1z : i1 ≠ z
  i2z : i2 ≠ z
def MixTn (z TI TO i1 i2 a b : Addr) (i : Nat) (h : Heap) : Prop := IsZip h z TI TO .none ∧ IsTupOf2 h TI (.ref i1) (.ref i2) ∧ (∃ x y, IsTupOf2 h TO x y) ∧ h.IsTupleIter i1 a i ∧ h.IsListIter i2 b i
theorem five {z TI TO i1 i2 c : Addr} {p : Addr → Prop} (h : c ∈ [z, TI, TO, i1, i2]) (hz : p z) (hI : p TI) (hO : p TO) (h1 : p i1) (h2 : p i2) : p c := by
  have q : c = z ∨ c = TI ∨ c = TO ∨ c = i1 ∨ c = i2 := by simpa using h
  rcases q with rfl | rfl | rfl | rfl | rfl <;> assumption
theorem tup_ne {h : Heap} {i a : Addr} {k : Nat} {xs : Array Value} (it : h.IsTupleIter i a k) (p : IsTup h a xs) : a ≠ i := fun e => by
  obtain ⟨o, eo, c, _⟩ := it
  obtain ⟨o', eo', c', _⟩ := p
  rw [e, eo] at eo'
  cases eo'
  exact absurd (Value.type.inj (c.symm.trans c')) (by decide)
theorem lst_ne {h : Heap} {i a : Addr} {k : Nat} {xs : Array Value} (it : h.IsListIter i a k) (p : PlainL h a xs) : a ≠ i := fun e => by
  obtain ⟨o, eo, c, _⟩ := it
  obtain ⟨o', _, eo', c', _⟩ := p
  rw [e, eo] at eo'
  cases eo'
  exact absurd (Value.type.inj (c.symm.trans c')) (by decide)
theorem nin {x y c : Nat} (h1 : c ≠ x) (h2 : c ≠ y) : c ∉ [x, y] := by simp [h1, h2]
theorem turn_mix {P : Program} {w : World} {K : PySem.W.Frag} {elts : List Expr} {kk : Nat} {tpos : Pos} {a b z TI TO i1 i2 : Addr} (D : MixApart z TI TO i1 i2 a b) :
    Turn P w K (.Tuple elts kk tpos) (ItMix K a b) [z, TI, TO, i1, i2] z (MixTn z TI TO i1 i2 a b) where
  mem := by simp
  obj := fun i h ⟨hz, hI, ⟨x, y, hO⟩, ⟨o1, e1, _, d1⟩, ⟨o2, e2, _, d2⟩⟩ c hc =>
    five (p := fun c => ∃ o, h.get? c = some o ∧ ∀ v, o.data ≠ .cell v) hc ⟨_, hz, fun v q => nomatch q⟩ ⟨_, hI, fun v q => nomatch q⟩ ⟨_, hO, fun v q => nomatch q⟩ ⟨o1, e1, fun v q => by rw [d1] at q; cases q⟩ ⟨o2, e2, fun v q => by rw [d2] at q; cases q⟩
  keep := fun i h h' ⟨hz, hI, ⟨x, y, hO⟩, h1, h2⟩ k => ⟨k z (by simp) _ hz, k TI (by simp) _ hI, ⟨x, y, k TO (by simp) _ hO⟩, h1.at (k i1 (by simp)), h2.at (k i2 (by simp))⟩
  self := fun A i s Q E st h => wpAny_pyIter_zip st.1 h
  item := by
    intro X hP hw hK hc i pins s σ H E I hf st hg
    subst hP hw hK
    obtain ⟨hz, hI, ⟨x0, y0, hO⟩, h1, h2⟩ := st
    obtain ⟨xs, ys, qx, qy, lx, ly⟩ := hg
    obtain ⟨its, rv, p, _⟩ := I.tuple qx
    obtain ⟨its2, rv2, p2, _⟩ := I.list qy
    have l1 := rv.length
    have l2 := rv2.length
    have calm := I.ok.hd hc
    have na := tup_ne h1 p
    have nb := lst_ne h2 p2
    have zlt : z < s.heap.objs.size := Heap.lt_size hz
    refine wpAny_pyNext_zipD2_item D.sep (Draws.tuple (A := X.A.in1) calm i1 a na its.toArray) (Draws.list (A := X.A.in1) calm i2 b nb its2.toArray) hz hI hO ⟨h1, p⟩ ⟨h2, p2.isList⟩ (by simp; omega) (by simp; omega) fun u u2 h' tk hu hu2 z' O' st1 st2 hT sz keep => ?_
    obtain ⟨x, hx⟩ : ∃ x, xs[i]? = some x := ⟨_, List.getElem?_eq_getElem lx⟩
    obtain ⟨y, hy⟩ : ∃ y, ys[i]? = some y := ⟨_, List.getElem?_eq_getElem ly⟩
    obtain ⟨v, hv, ru⟩ := rv.get hx
    obtain ⟨v2, hv2, ru2⟩ := rv2.get hy
    have eu : v = u := by
      have hu' : its[i]? = some u := by simpa using hu
      rw [hv] at hu'; exact Option.some.inj hu'
    have eu2 : v2 = u2 := by
      have hu' : its2[i]? = some u2 := by simpa using hu2
      rw [hv2] at hu'; exact Option.some.inj hu'
    subst eu eu2
    refine ⟨_, rfl, wpAny_letOwnedTupleGo_zip (s := { s with heap := h', toks := tk }) z' fun h'' z'' sb => ?_⟩
    have T2 : h''.get? s.heap.objs.size = some { cls := .type "tuple", data := .seq #[v, v2] } := (sb.2 _ (Nat.ne_of_gt zlt)).trans hT
    have new : ObjOk X.prog X.w (upd H s.heap.objs.size (.tup [x, y])) h'' s.heap.objs.size (.tup [x, y]) := ⟨by show 2 ≤ sizeLine; decide, [v, v2], .cons ru (.cons ru2 .nil), ⟨_, T2, rfl, _, rfl⟩⟩
    have I1 : Inv X pins σ (upd H s.heap.objs.size (.tup [x, y])) { s with heap := h'', toks := tk } :=
      I.turnedNew (t' := tk) (ch := [z, TI, TO, i1, i2]) (fun c o nc q => (sb.2 c (fun e => nc (by simp [e]))).trans (keep c o (fun e => nc (by simp [e])) (fun e => nc (by simp [e])) (fun e => nc (by simp [e])) (fun e => nc (by simp [e])) q)) hf (Nat.le_refl _) new
    have nz : ∀ {c : Addr} {o : Obj}, c ≠ z → h'.get? c = some o → h''.get? c = some o := fun n e => (sb.2 _ n).trans e
    refine ⟨.ref s.heap.objs.size, _, I1, rfl, ⟨_, x, y, rfl, I.hok.fresh (Nat.le_refl _), rfl, fun l hl => by rw [I.tuple_inj hl qx]; exact hx, fun l hl => by rw [I.list_inj hl qy]; exact hy⟩, ⟨z'', nz D.sep.TIz (keep _ _ D.sep.TIz D.sep.TITO D.sep.TIi1 D.sep.TIi2 hI), ⟨v, v2, nz D.sep.TOz O'⟩, st1.1.at fun o => nz D.i1z, st2.1.at fun o => nz D.i2z⟩, fun c hc => ?_⟩
    have lt : c < s.heap.objs.size := five (p := fun c => c < s.heap.objs.size) hc zlt (Heap.lt_size hI) (Heap.lt_size hO) (by obtain ⟨_, e, _⟩ := h1; exact Heap.lt_size e) (by obtain ⟨_, e, _⟩ := h2; exact Heap.lt_size e)
    rw [upd_ne (Nat.ne_of_lt lt)]
    exact (hf c hc).1
  done := by
    intro X hP hw hK hc i pins s σ H E I hf st hg
    subst hP hw hK
    obtain ⟨hz, hI, ⟨x0, y0, hO⟩, h1, h2⟩ := st
    obtain ⟨xs, ys, qx, qy, lx, ly, e⟩ := hg
    obtain ⟨its, rv, p, _⟩ := I.tuple qx
    obtain ⟨its2, rv2, p2, _⟩ := I.list qy
    have l1 := rv.length
    have l2 := rv2.length
    have calm := I.ok.hd hc
    have na := tup_ne h1 p
    have nb := lst_ne h2 p2
    exact wpAny_pyNext_zipD2_end D.sep (Draws.tuple (A := X.A.in1) calm i1 a na its.toArray) (Draws.list (A := X.A.in1) calm i2 b nb its2.toArray) hz hI hO ⟨h1, p⟩ ⟨h2, p2.isList⟩ (by simp; omega) (by simp; omega) (by simp; omega) fun h' tk keep => ⟨rfl, I.turnedL (t' := tk) (ch := [z, TI, TO, i1, i2]) (fun c o nc q =>
      keep c o (fun e => nc (by simp [e])) (fun e => nc (by simp [e])) (fun e => nc (by simp [e])) (fun e => nc (by simp [e])) q) hf⟩
theorem mixApart_of (n a b : Nat) (ha : a < n) (hb : b < n) : MixApart (n + 4) (n + 2) (n + 3) n (n + 1) a b :=
  ⟨⟨Nat.ne_of_lt (by omega), Nat.ne_of_lt (by omega), Nat.ne_of_lt (by omega), Nat.ne_of_gt (by omega), List.mem_cons_self, nin (Nat.ne_of_gt (by omega)) (Nat.ne_of_gt (by omega)), nin (Nat.ne_of_gt (by omega)) (Nat.ne_of_gt (by omega)),
    Nat.ne_of_gt (by omega), List.mem_cons_self, nin (Nat.ne_of_gt (by omega)) (Nat.ne_of_gt (by omega)), nin (Nat.ne_of_gt (by omega)) (Nat.ne_of_gt (by omega)), nin (Nat.ne_of_lt (by omega)) (Nat.ne_of_gt (by omega)), nin (Nat.ne_of_gt (by omega)) (Nat.ne_of_gt (by omega))⟩, Nat.ne_of_lt (by omega), Nat.ne_of_lt (by omega)⟩
def iMix (K : PySem.W.Frag) (ta : TA) : TI := fun σ H R => ta σ H fun vs H1 => ∃ (a b : Addr) (xs ys : List V), vs = [.ref a, .ref b] ∧ SqT K H1 a xs ∧ SqL K H1 b ys ∧ R (ItMix K a b) H1
theorem pi_zipM {X : Cx} {e e2 : Expr} {ta : TA} {p pos tpos : Pos} {elts : List Expr} {kk : Nat} (hg : Gl X "zip") (hm : X.mg "zip" = none) (ha : PA X [e, e2] ta)
    (first : starEach [e, e2] X.env = (false, eval e X.env) :: starEach [e2] X.env := by rfl) (nost : (backTo pos (starEach [e2] X.env)).any (·.1) = false := by rfl) : PI X (.Tuple elts kk tpos) (.Call (.Name "zip" p) [e, e2] [] pos) (iMix X.K ta) := by
  constructor
  intro pins s σ H R I h
  refine Call_ (ld_blt I hg hm PyProof.Rows.boot_zip (PyProof.Rows.callWith_type1 (thn (ha.run pos pins s σ H _ I h) fun us s1 z => ?_) first nost))
  obtain ⟨vs, H1, I1, r1, a, b, xs, ys, rfl, qx, qy, q⟩ := z
  match us, r1 with
  | [u, v], .cons r (.cons r' .nil) =>
    obtain rfl : u = Value.ref a := r
    obtain rfl : v = Value.ref b := r'
    obtain ⟨its, rv, p1, _⟩ := I1.tuple qx
    obtain ⟨its2, rv2, p2, _⟩ := I1.list qy
    have alt : a < s1.heap.objs.size := by obtain ⟨_, e, _⟩ := p1; exact Heap.lt_size e
    have blt := p2.lt
    refine call_mix (show s1.heap.IsTuple a its.toArray from p1) p2.isList fun h' m k => wpAny_pyIter_zip m.zip ?_
    have I2 : Inv X pins σ H1 { s1 with heap := h' } := I1.kept (t' := s1.toks) k
    generalize hn : s1.heap.objs.size = n at m alt blt
    have D := mixApart_of n a b alt blt
    refine ⟨n + 4, [n + 4, n + 2, n + 3, n, n + 1], _, _, H1, rfl, I2, turn_mix D, ⟨m.zip, m.inner, ⟨_, _, m.out⟩, m.one, m.two⟩, fun c hc => ?_, q⟩
    have le : n ≤ c := five (p := fun c => n ≤ c) hc (by omega) (by omega) (by omega) (by omega) (by omega)
    exact I1.fpOk (hn ▸ le) (I1.hok.fresh (hn ▸ le))
/-- a loop over both, of one length -/
theorem for_mix {K : PySem.W.Frag} {a b : Addr} {xs ys : List V} {g : TG} {tb : TS} {D : Ends} {σ : L2.St} {H : Hp} (len : xs.length = ys.length) (Pv : Nat → L2.St → Hp → Prop) (h0 : Pv 0 σ H) (both : ∀ i σ H, Pv i σ H → SqT K H a xs ∧ SqL K H b ys)
    (turn : ∀ (i : Nat) (x y : V) (T : Addr) (σ : L2.St) (H : Hp), xs[i]? = some x → ys[i]? = some y → Pv i σ H → H T = none → g (.ref T) σ (upd H T (.tup [x, y])) fun σ2 H2 => tb { D with nx := Pv (i + 1), ct := Pv (i + 1), bk := D.nx } σ2 H2) (last : ∀ σ H, Pv xs.length σ H → D.nx σ H) :
    ∃ W : Nat → Nat → L2.St → Hp → Prop, (∃ m, W 0 m σ H) ∧ ∀ i m σ H, W i m σ H →
      ((ItMix K a b).stop i H ∧ D.nx σ H) ∨ ((ItMix K a b).go i H ∧ ∃ N : L2.St → Hp → Prop, (∀ σ' H', N σ' H' → ∃ m', m' < m ∧ W (i + 1) m' σ' H') ∧ ∀ v H', (ItMix K a b).yld i H v H' → g v σ H' fun σ2 H2 => tb { D with nx := N, ct := N, bk := D.nx } σ2 H2) := by
  refine ⟨fun i m σ H => m = xs.length - i ∧ i ≤ xs.length ∧ Pv i σ H, ⟨_, rfl, Nat.zero_le _, h0⟩, ?_⟩
  rintro i m σ H ⟨rfl, le, p⟩
  have ⟨qx, qy⟩ := both i σ H p
  rcases Nat.lt_or_eq_of_le le with lt | e
  · refine .inr ⟨⟨xs, ys, qx, qy, lt, by omega⟩, Pv (i + 1), fun σ' H' p' => ⟨_, by omega, rfl, lt, p'⟩, ?_⟩
    rintro v H' ⟨T, x, y, rfl, free, rfl, fx, fy⟩
    exact turn i x y T σ H (fx xs qx) (fy ys qy) p free
  · subst e
    exact .inl ⟨⟨xs, ys, qx, qy, Nat.le_refl _, by omega, .inl rfl⟩, last σ H p⟩
end L2
end
section
set_option maxHeartbeats 1000000
/-! zip of three lists. -/
namespace L2
open PySem PySem.Spec PyProof.Rows PySem.W
/-- three lists' items in new triples, as they stand at each turn -/
def ItTri (K : PySem.W.Frag) (a b c : Addr) : It :=
  ⟨fun i H => ∃ xs ys zs : List V, SqL K H a xs ∧ SqL K H b ys ∧ SqL K H c zs ∧ i < xs.length ∧ i < ys.length ∧ i < zs.length,
    fun i H v H' => ∃ (T : Addr) (x y z : V), v = .ref T ∧ H T = none ∧ H' = upd H T (.tup [x, y, z]) ∧ (∀ xs, SqL K H a xs → xs[i]? = some x) ∧ (∀ ys, SqL K H b ys → ys[i]? = some y) ∧ ∀ zs, SqL K H c zs → zs[i]? = some z,
    fun i H => ∃ xs ys zs : List V, SqL K H a xs ∧ SqL K H b ys ∧ SqL K H c zs ∧ i ≤ xs.length ∧ i ≤ ys.length ∧ i ≤ zs.length ∧ (i = xs.length ∨ i = ys.length ∨ i = zs.length)⟩
structure TriApart (z TI TO i1 i2 i3 a b c : Addr) : Prop where
  sep : ZipSep3 z TI TO i1 i2 i3 [i1, a] [i2, b] [i3, c]
  i1z : i1 ≠ z
  i2z : i2 ≠ z
  i3z : i3 ≠ z
def TriTn (z TI TO i1 i2 i3 a b c : Addr) (i : Nat) (h : Heap) : Prop := IsZip h z TI TO .none ∧ IsTupOf3 h TI (.ref i1) (.ref i2) (.ref i3) ∧ (∃ x y v, IsTupOf3 h TO x y v) ∧ h.IsListIter i1 a i ∧ h.IsListIter i2 b i ∧ h.IsListIter i3 c i
theorem six {z TI TO i1 i2 i3 c : Addr} {p : Addr → Prop} (h : c ∈ [z, TI, TO, i1, i2, i3]) (hz : p z) (hI : p TI) (hO : p TO) (h1 : p i1) (h2 : p i2) (h3 : p i3) : p c := by
  have q : c = z ∨ c = TI ∨ c = TO ∨ c = i1 ∨ c = i2 ∨ c = i3 := by simpa using h
  rcases q with rfl | rfl | rfl | rfl | rfl | rfl <;> assumption
theorem vals_same {x : V} {vs : List Value} {xs : List V} {i : Nat} {u : Value} (rv : Vals xs vs) (hx : xs[i]? = some x) (hu : vs.toArray[i]? = some u) : RelV x u := by
  obtain ⟨v, hv, r⟩ := rv.get hx
  have : v = u := by
    have q : vs[i]? = some u := by simpa using hu
    rw [hv] at q; exact Option.some.inj q
  exact this ▸ r
theorem turn_tri {P : Program} {w : World} {K : PySem.W.Frag} {elts : List Expr} {kk : Nat} {tpos : Pos} {a b c z TI TO i1 i2 i3 : Addr} (D : TriApart z TI TO i1 i2 i3 a b c) :
    Turn P w K (.Tuple elts kk tpos) (ItTri K a b c) [z, TI, TO, i1, i2, i3] z (TriTn z TI TO i1 i2 i3 a b c) where
  mem := by simp
  obj := fun i h ⟨hz, hI, ⟨x, y, v, hO⟩, ⟨o1, e1, _, d1⟩, ⟨o2, e2, _, d2⟩, ⟨o3, e3, _, d3⟩⟩ q hq =>
    six (p := fun c => ∃ o, h.get? c = some o ∧ ∀ v, o.data ≠ .cell v) hq ⟨_, hz, fun v q => nomatch q⟩ ⟨_, hI, fun v q => nomatch q⟩ ⟨_, hO, fun v q => nomatch q⟩ ⟨o1, e1, fun v q => by rw [d1] at q; cases q⟩ ⟨o2, e2, fun v q => by rw [d2] at q; cases q⟩ ⟨o3, e3, fun v q => by rw [d3] at q; cases q⟩
  keep := fun i h h' ⟨hz, hI, ⟨x, y, v, hO⟩, h1, h2, h3⟩ k => ⟨k z (by simp) _ hz, k TI (by simp) _ hI, ⟨x, y, v, k TO (by simp) _ hO⟩, h1.at (k i1 (by simp)), h2.at (k i2 (by simp)), h3.at (k i3 (by simp))⟩
  self := fun A i s Q E st h => wpAny_pyIter_zip st.1 h
  item := by
    intro X hP hw hK hc i pins s σ H E I hf st hg
    subst hP hw hK
    obtain ⟨hz, hI, ⟨x0, y0, v0, hO⟩, h1, h2, h3⟩ := st
    obtain ⟨xs, ys, zs, qx, qy, qz, lx, ly, lz⟩ := hg
    obtain ⟨its, rv, p, _⟩ := I.list qx
    obtain ⟨its2, rv2, p2, _⟩ := I.list qy
    obtain ⟨its3, rv3, p3, _⟩ := I.list qz
    have l1 := rv.length
    have l2 := rv2.length
    have l3 := rv3.length
    have calm := I.ok.hd hc
    have na := lst_ne h1 p
    have nb := lst_ne h2 p2
    have nc := lst_ne h3 p3
    have zlt : z < s.heap.objs.size := Heap.lt_size hz
    refine wpAny_pyNext_zipD3_item D.sep (Draws.list (A := X.A.in1) calm i1 a na its.toArray) (Draws.list (A := X.A.in1) calm i2 b nb its2.toArray) (Draws.list (A := X.A.in1) calm i3 c nc its3.toArray) hz hI hO ⟨h1, p.isList⟩ ⟨h2, p2.isList⟩ ⟨h3, p3.isList⟩ (by simp; omega) (by simp; omega) (by simp; omega) fun u u2 u3 h' tk hu hu2 hu3 z' O' st1 st2 st3 hT sz keep => ?_
    obtain ⟨x, hx⟩ : ∃ x, xs[i]? = some x := ⟨_, List.getElem?_eq_getElem lx⟩
    obtain ⟨y, hy⟩ : ∃ y, ys[i]? = some y := ⟨_, List.getElem?_eq_getElem ly⟩
    obtain ⟨v, hv⟩ : ∃ v, zs[i]? = some v := ⟨_, List.getElem?_eq_getElem lz⟩
    have r1 := vals_same rv hx hu
    have r2 := vals_same rv2 hy hu2
    have r3 := vals_same rv3 hv hu3
    refine ⟨_, rfl, wpAny_letOwnedTupleGo_zip (s := { s with heap := h', toks := tk }) z' fun h'' z'' sb => ?_⟩
    have T3 : h''.get? s.heap.objs.size = some { cls := .type "tuple", data := .seq #[u, u2, u3] } := (sb.2 _ (Nat.ne_of_gt zlt)).trans hT
    have new : ObjOk X.prog X.w (upd H s.heap.objs.size (.tup [x, y, v])) h'' s.heap.objs.size (.tup [x, y, v]) := ⟨by show 3 ≤ sizeLine; decide, [u, u2, u3], .cons r1 (.cons r2 (.cons r3 .nil)), ⟨_, T3, rfl, _, rfl⟩⟩
    have I1 : Inv X pins σ (upd H s.heap.objs.size (.tup [x, y, v])) { s with heap := h'', toks := tk } :=
      I.turnedNew (t' := tk) (ch := [z, TI, TO, i1, i2, i3]) (fun q o nq e => (sb.2 q (fun e => nq (by simp [e]))).trans (keep q o (fun e => nq (by simp [e])) (fun e => nq (by simp [e])) (fun e => nq (by simp [e])) (fun e => nq (by simp [e])) (fun e => nq (by simp [e])) e)) hf (Nat.le_refl _) new
    have nz : ∀ {q : Addr} {o : Obj}, q ≠ z → h'.get? q = some o → h''.get? q = some o := fun n e => (sb.2 _ n).trans e
    refine ⟨.ref s.heap.objs.size, _, I1, rfl, ⟨_, x, y, v, rfl, I.hok.fresh (Nat.le_refl _), rfl, fun l hl => by rw [I.list_inj hl qx]; exact hx, fun l hl => by rw [I.list_inj hl qy]; exact hy, fun l hl => by rw [I.list_inj hl qz]; exact hv⟩,
      ⟨z'', nz D.sep.TIz (keep _ _ D.sep.TIz D.sep.TITO D.sep.TIi1 D.sep.TIi2 D.sep.TIi3 hI), ⟨u, u2, u3, nz D.sep.TOz O'⟩, st1.1.at fun o => nz D.i1z, st2.1.at fun o => nz D.i2z, st3.1.at fun o => nz D.i3z⟩, fun q hq => ?_⟩
    have lt : q < s.heap.objs.size := six (p := fun q => q < s.heap.objs.size) hq zlt (Heap.lt_size hI) (Heap.lt_size hO) (by obtain ⟨_, e, _⟩ := h1; exact Heap.lt_size e) (by obtain ⟨_, e, _⟩ := h2; exact Heap.lt_size e) (by obtain ⟨_, e, _⟩ := h3; exact Heap.lt_size e)
    rw [upd_ne (Nat.ne_of_lt lt)]
    exact (hf q hq).1
  done := by
    intro X hP hw hK hc i pins s σ H E I hf st hg
    subst hP hw hK
    obtain ⟨hz, hI, ⟨x0, y0, v0, hO⟩, h1, h2, h3⟩ := st
    obtain ⟨xs, ys, zs, qx, qy, qz, lx, ly, lz, e⟩ := hg
    obtain ⟨its, rv, p, _⟩ := I.list qx
    obtain ⟨its2, rv2, p2, _⟩ := I.list qy
    obtain ⟨its3, rv3, p3, _⟩ := I.list qz
    have l1 := rv.length
    have l2 := rv2.length
    have l3 := rv3.length
    have calm := I.ok.hd hc
    have na := lst_ne h1 p
    have nb := lst_ne h2 p2
    have nc := lst_ne h3 p3
    exact wpAny_pyNext_zipD3_end D.sep (Draws.list (A := X.A.in1) calm i1 a na its.toArray) (Draws.list (A := X.A.in1) calm i2 b nb its2.toArray) (Draws.list (A := X.A.in1) calm i3 c nc its3.toArray) hz hI hO ⟨h1, p.isList⟩ ⟨h2, p2.isList⟩ ⟨h3, p3.isList⟩ (by simp; omega) (by simp; omega) (by simp; omega) (by simp; omega) fun h' tk keep => ⟨rfl, I.turnedL (t' := tk) (ch := [z, TI, TO, i1, i2, i3]) (fun q o nq e =>
      keep q o (fun e => nq (by simp [e])) (fun e => nq (by simp [e])) (fun e => nq (by simp [e])) (fun e => nq (by simp [e])) (fun e => nq (by simp [e])) e) hf⟩
theorem triApart_of (n a b c : Nat) (ha : a < n) (hb : b < n) (hc : c < n) : TriApart (n + 5) (n + 3) (n + 4) n (n + 1) (n + 2) a b c where
  sep := ⟨Nat.ne_of_lt (by omega), Nat.ne_of_lt (by omega), Nat.ne_of_lt (by omega), Nat.ne_of_gt (by omega), List.mem_cons_self, nin (Nat.ne_of_gt (by omega)) (Nat.ne_of_gt (by omega)), nin (Nat.ne_of_gt (by omega)) (Nat.ne_of_gt (by omega)), Nat.ne_of_gt (by omega), List.mem_cons_self, nin (Nat.ne_of_gt (by omega)) (Nat.ne_of_gt (by omega)), nin (Nat.ne_of_gt (by omega)) (Nat.ne_of_gt (by omega)), Nat.ne_of_gt (by omega), List.mem_cons_self, nin (Nat.ne_of_gt (by omega)) (Nat.ne_of_gt (by omega)), nin (Nat.ne_of_gt (by omega)) (Nat.ne_of_gt (by omega)), nin (Nat.ne_of_lt (by omega)) (Nat.ne_of_gt (by omega)), nin (Nat.ne_of_lt (by omega)) (Nat.ne_of_gt (by omega)), nin (Nat.ne_of_gt (by omega)) (Nat.ne_of_gt (by omega)), nin (Nat.ne_of_lt (by omega)) (Nat.ne_of_gt (by omega)), nin (Nat.ne_of_gt (by omega)) (Nat.ne_of_gt (by omega)), nin (Nat.ne_of_gt (by omega)) (Nat.ne_of_gt (by omega))⟩
  i1z := Nat.ne_of_lt (by omega)
  i2z := Nat.ne_of_lt (by omega)
  i3z := Nat.ne_of_lt (by omega)
def iTri (K : PySem.W.Frag) (ta : TA) : TI := fun σ H R => ta σ H fun vs H1 => ∃ (a b c : Addr) (xs ys zs : List V), vs = [.ref a, .ref b, .ref c] ∧ SqL K H1 a xs ∧ SqL K H1 b ys ∧ SqL K H1 c zs ∧ R (ItTri K a b c) H1
theorem pi_zip3 {X : Cx} {e e2 e3 : Expr} {ta : TA} {p pos tpos : Pos} {elts : List Expr} {kk : Nat} (hg : Gl X "zip") (hm : X.mg "zip" = none) (ha : PA X [e, e2, e3] ta)
    (first : starEach [e, e2, e3] X.env = (false, eval e X.env) :: starEach [e2, e3] X.env := by rfl) (nost : (backTo pos (starEach [e2, e3] X.env)).any (·.1) = false := by rfl) : PI X (.Tuple elts kk tpos) (.Call (.Name "zip" p) [e, e2, e3] [] pos) (iTri X.K ta) := by
  constructor
  intro pins s σ H R I h
  refine Call_ (ld_blt I hg hm PyProof.Rows.boot_zip (PyProof.Rows.callWith_type1 (thn (ha.run pos pins s σ H _ I h) fun us s1 z => ?_) first nost))
  obtain ⟨vs, H1, I1, r1, a, b, c, xs, ys, zs, rfl, qx, qy, qz, q⟩ := z
  match us, r1 with
  | [u, v, w'], .cons r (.cons r' (.cons r'' .nil)) =>
    obtain rfl : u = Value.ref a := r
    obtain rfl : v = Value.ref b := r'
    obtain rfl : w' = Value.ref c := r''
    obtain ⟨its, rv, p1, _⟩ := I1.list qx
    obtain ⟨its2, rv2, p2, _⟩ := I1.list qy
    obtain ⟨its3, rv3, p3, _⟩ := I1.list qz
    have alt := p1.lt
    have blt := p2.lt
    have clt := p3.lt
    refine zip_begins3 (begins_list a its.toArray) (begins_list b its2.toArray) (begins_list c its3.toArray) p1.isList p2.isList p3.isList fun h' hz hI hO k1 k2 k3 sz keep => wpAny_pyIter_zip hz ?_
    have I2 : Inv X pins σ H1 { s1 with heap := h' } := I1.kept (t' := s1.toks) keep
    generalize hn : s1.heap.objs.size = n at hz hI hO k1 k2 k3 alt blt clt
    have D := triApart_of n a b c alt blt clt
    refine ⟨n + 5, [n + 5, n + 3, n + 4, n, n + 1, n + 2], _, _, H1, rfl, I2, turn_tri D, ⟨hz, hI, ⟨_, _, _, hO⟩, ⟨_, k1, rfl, rfl⟩, ⟨_, k2, rfl, rfl⟩, ⟨_, k3, rfl, rfl⟩⟩, fun d hd => ?_, q⟩
    have le : n ≤ d := six (p := fun d => n ≤ d) hd (by omega) (by omega) (by omega) (by omega) (by omega) (by omega)
    exact I1.fpOk (hn ▸ le) (I1.hok.fresh (hn ▸ le))
theorem walk_tri {K : PySem.W.Frag} {a b c : Addr} {xs ys zs : List V} (l1 : xs.length = ys.length) (l2 : xs.length = zs.length) :
    Walk (ItTri K a b c) xs.length (fun H => SqL K H a xs ∧ SqL K H b ys ∧ SqL K H c zs) (fun i H v H' => ∃ (T : Addr) (x y z : V), v = .ref T ∧ H T = none ∧ H' = upd H T (.tup [x, y, z]) ∧ xs[i]? = some x ∧ ys[i]? = some y ∧ zs[i]? = some z) where
  goes := fun i H hi ⟨qx, qy, qz⟩ => ⟨xs, ys, zs, qx, qy, qz, hi, by omega, by omega⟩
  stops := fun H ⟨qx, qy, qz⟩ => ⟨xs, ys, zs, qx, qy, qz, Nat.le_refl _, by omega, by omega, .inl rfl⟩
  yields := fun i H v H' _ ⟨qx, qy, qz⟩ ⟨T, x, y, z, e, f, e', fx, fy, fz⟩ => ⟨T, x, y, z, e, f, e', fx xs qx, fy ys qy, fz zs qz⟩
end L2
end
section
/-! The law's helpers: what some readers bar; spoilt evidence. -/
namespace KD
open PySem L2 DM
theorem in_strs (n : Str) (rs : List Str) : inV (V.str n) (rs.map V.str) = decide (n ∈ rs) := by
  unfold inV
  rw [List.any_map, Bool.eq_iff_iff, List.any_eq_true, decide_eq_true_iff]
  constructor
  · rintro ⟨r, hr, e⟩
    have : (r == n) = true := e
    rw [← beq_iff_eq.mp this]; exact hr
  · intro h
    exact ⟨n, h, (beq_iff_eq (a := n) (b := n)).mpr rfl⟩
theorem flat_strs (rs : List Str) : (rs.map V.str).all flatV = true := by
  rw [List.all_map, List.all_eq_true]
  exact fun _ _ => rfl
theorem sumF_append {σ : Type} (f : σ → Int) : ∀ xs ys : List σ, sumF f (xs ++ ys) = sumF f xs + sumF f ys
  | [], ys => by show sumF f ys = 0 + sumF f ys; omega
  | x :: xs, ys => by
    show f x + sumF f (xs ++ ys) = f x + sumF f xs + sumF f ys
    rw [sumF_append f xs ys]; omega
def barF (l lo hi : Str → Int) (way : Str) (rs : List Str) (n : Str) : Int := if n ∈ rs then needT l lo hi way n else 0
def spBar (c : Cs) : Sp := fun vs H Q _ => ∃ (x rl nl bl ll : Addr) (ys : List (Str × Str × Str)) (way : Str) (rs0 rs ns : List Str) (l lo hi : Str → Int), vs = [.ref x, .ref rl, .ref nl, .ref bl, .ref ll] ∧ EvAt c H x ys way rs0 ∧ H rl = some (.lst (rs.map V.str)) ∧ H nl = some (.lst (ns.map V.str)) ∧
  H bl = some (.lst ((ns.map l).map V.int)) ∧ LimAt H ll (ns.map fun n => (lo n, hi n)) ∧ ns.length ≤ 100 ∧ ∀ H', Same H H' → Q (.int (sumF (barF l lo hi way rs) ns)) H'
def movD (y : Str × Str × Str) : PyData := .tuple [.str y.1, .str y.2.1, .str y.2.2]
def okS (x : Str) : Prop := (PyData.str x).canLay0 = true
theorem mov_lay (ys : List (Str × Str × Str)) (h : ∀ y ∈ ys, okS y.1 ∧ okS y.2.1 ∧ okS y.2.2) : ∀ d ∈ ys.map movD, d.canLay0 = true ∧ d.depth ≤ 1 := fun d hd => by
  obtain ⟨y, hy, rfl⟩ := List.mem_map.mp hd
  have o := h y hy
  refine ⟨?_, Nat.le_refl _⟩
  show ((PyData.str y.1).canLay0 && ((PyData.str y.2.1).canLay0 && ((PyData.str y.2.2).canLay0 && true))) = true
  rw [o.1, o.2.1, o.2.2]; rfl
theorem mov_data {K : PySem.W.Frag} {H : Hp} : ∀ (ts : List Addr) (ys : List (Str × Str × Str)), ts.length = ys.length → (∀ (i : Nat) (t : Addr) (y : Str × Str × Str), ts[i]? = some t → ys[i]? = some y → H t = some (.tup [.str y.1, .str y.2.1, .str y.2.2])) → DpAll K H (ts.map V.ref) (ys.map movD)
  | [], [], _, _ => .nil
  | [], _ :: _, h, _ => by cases h
  | _ :: _, [], h, _ => by cases h
  | t :: ts, y :: ls, h, k => .cons (.tup (SqT.of (k 0 t y rfl rfl)) (.cons (.str _) (.cons (.str _) (.cons (.str _) .nil)))) (mov_data ts ls (Nat.succ.inj h) fun i t y a b => k (i + 1) t y a b)
theorem str_lay (rs : List Str) (h : ∀ r ∈ rs, okS r) : ∀ d ∈ rs.map PyData.str, d.canLay0 = true ∧ d.depth ≤ 1 := fun d hd => by
  obtain ⟨y, hy, rfl⟩ := List.mem_map.mp hd
  exact ⟨h y hy, Nat.zero_le _⟩
theorem str_data {K : PySem.W.Frag} {H : Hp} : ∀ rs : List Str, DpAll K H (rs.map V.str) (rs.map PyData.str)
  | [] => .nil
  | r :: rs => .cons (.str r) (str_data rs)
theorem cut_head (xs : List V) : cutV xs none (some 1) = xs.take 1 := by
  unfold cutV
  have := HT.sIx_nat xs.length xs.length 1
  rw [show (((1 : Nat) : Int)) = 1 from rfl] at this
  rw [this, HT.sIx_none, List.drop_zero, Nat.sub_zero]
  cases xs with
  | nil => rfl
  | cons x xs => rw [List.length_cons, show min 1 (xs.length + 1) = 1 by omega]
theorem cut_tail (xs : List V) : cutV xs (some 1) none = xs.drop 1 := by
  cases xs with
  | nil => rfl
  | cons x xs => rw [cut_1]; rfl
def spoilt (ys : List (Str × Str × Str)) (rs : List Str) : List (List (Str × Str × Str) × List Str) :=
  (if ys = [] then [] else [(ys ++ ys.take 1, rs), (ys.drop 1, rs)]) ++ if rs = [] then [] else [(ys, rs ++ rs.take 1)]
structure EvsAt (c : Cs) (H : Hp) (W : Addr) (way : Str) (es : List (List (Str × Str × Str) × List Str)) : Prop where
  at_ : ∃ as : List Addr, H W = some (.lst (as.map V.ref)) ∧ as.length = es.length ∧ ∀ (i : Nat) (a : Addr) (e : List (Str × Str × Str) × List Str), as[i]? = some a → es[i]? = some e → EvAt c H a e.1 way e.2
theorem EvsAt.same {c : Cs} {H H' : Hp} {W : Addr} {way : Str} {es : List (List (Str × Str × Str) × List Str)} (h : EvsAt c H W way es) (e : Same H H') : EvsAt c H' W way es := ⟨let ⟨as, h1, h2, h3⟩ := h.at_; ⟨as, e _ _ h1, h2, fun i a x p q => (h3 i a x p q).same e⟩⟩
/-- evidence none of whose lists is at W -/
def EvOff (c : Cs) (H : Hp) (W x : Addr) (ys : List (Str × Str × Str)) (way : Str) (rs : List Str) : Prop := ∃ dx a b, H x = some (.ins c.moves dx (mF a (.str way) b)) ∧ MovesAt H a ys ∧ H b = some (.lst (rs.map V.str)) ∧ a ≠ W ∧ b ≠ W
theorem EvOff.ev {c : Cs} {H : Hp} {W x : Addr} {ys : List (Str × Str × Str)} {way : Str} {rs : List Str} (h : EvOff c H W x ys way rs) : EvAt c H x ys way rs := ⟨let ⟨dx, a, b, h1, h2, h3, _⟩ := h; ⟨dx, a, b, h1, h2, h3⟩⟩
theorem EvOff.same {c : Cs} {H H' : Hp} {W x : Addr} {ys : List (Str × Str × Str)} {way : Str} {rs : List Str} (h : EvOff c H W x ys way rs) (e : Same H H') : EvOff c H' W x ys way rs := let ⟨dx, a, b, h1, h2, h3, h4⟩ := h; ⟨dx, a, b, e _ _ h1, h2.same e, e _ _ h3, h4⟩
theorem EvOff.upd {c : Cs} {H : Hp} {W x : Addr} {ys : List (Str × Str × Str)} {way : Str} {rs : List Str} {l l' : List V} (h : EvOff c H W x ys way rs) (hw : H W = some (.lst l)) : EvOff c (upd H W (.lst l')) W x ys way rs := by
  obtain ⟨dx, a, b, h1, h2, h3, na, nb⟩ := h
  obtain ⟨ts, t1, t2, t3⟩ := h2.at_
  refine ⟨dx, a, b, ?_, ⟨ts, by rw [upd_ne na]; exact t1, t2, fun i t y p q => ?_⟩, by rw [upd_ne nb]; exact h3, na, nb⟩
  · rw [upd_ne fun e => by rw [e, hw] at h1; cases h1]; exact h1
  · have z := t3 i t y p q
    rw [upd_ne fun e => by rw [e, hw] at z; cases z]; exact z
def EvsO (c : Cs) (H : Hp) (W : Addr) (way : Str) (es : List (List (Str × Str × Str) × List Str)) : Prop :=
  ∃ as : List Addr, H W = some (.lst (as.map V.ref)) ∧ as.length = es.length ∧ ∀ (i : Nat) (a : Addr) (e : List (Str × Str × Str) × List Str), as[i]? = some a → es[i]? = some e → EvOff c H W a e.1 way e.2
theorem EvsO.evs {c : Cs} {H : Hp} {W : Addr} {way : Str} {es : List (List (Str × Str × Str) × List Str)} (h : EvsO c H W way es) : EvsAt c H W way es := ⟨let ⟨as, h1, h2, h3⟩ := h; ⟨as, h1, h2, fun i a e p q => (h3 i a e p q).ev⟩⟩
theorem EvsO.snoc {c : Cs} {H : Hp} {W o : Addr} {way : Str} {es : List (List (Str × Str × Str) × List Str)} {as : List Addr} (h1 : H W = some (.lst (as.map V.ref))) (h2 : as.length = es.length) (h3 : ∀ (i : Nat) (a : Addr) (e : List (Str × Str × Str) × List Str), as[i]? = some a → es[i]? = some e → EvOff c H W a e.1 way e.2)
    {zs : List (Str × Str × Str)} {ss : List Str} (ho : EvOff c H W o zs way ss) : EvsO c (upd H W (.lst (as.map V.ref ++ [.ref o]))) W way (es ++ [(zs, ss)]) :=
  ⟨as ++ [o], by rw [upd_same, List.map_append]; rfl, by rw [List.length_append, List.length_append, h2]; rfl, get_snoc h2 (fun i a e p q => (h3 i a e p q).upd h1) (ho.upd h1)⟩
def spSpoilt (c : Cs) : Sp := fun vs H Q _ => ∃ (x : Addr) (ys : List (Str × Str × Str)) (way : Str) (rs : List Str), vs = [.ref x] ∧ EvAt c H x ys way rs ∧ ys.length ≤ 100 ∧ rs.length ≤ 100 ∧ (∀ y ∈ ys, okS y.1 ∧ okS y.2.1 ∧ okS y.2.2) ∧ (∀ r ∈ rs, okS r) ∧ ∀ H' W, Same H H' → EvsAt c H' W way (spoilt ys rs) → Q (.ref W) H'
/-- evidence made of lists -/
theorem ev_made {c : Cs} {way : Str} (H2 : Hp) (p q : Addr) (us : List Addr) (zs : List (Str × Str × Str)) (ss : List Str) (Qc : Addr → Hp → Prop) (hp : H2 p = some (.lst (us.map V.ref))) (hlen : us.length = zs.length) (ht : ∀ (i : Nat) (t : Addr) (y : Str × Str × Str), us[i]? = some t → zs[i]? = some y → H2 t = some (.tup [.str y.1, .str y.2.1, .str y.2.2])) (hq : H2 q = some (.lst (ss.map V.str)))
    (kk : ∀ H' o, Same H2 H' → H2 o = none → (∀ V, H2 V ≠ none → EvOff c H' V o zs way ss) → Qc o H') : ∀ o d, H2 o = none → H2 d = none → d ≠ o → spMI c [.ref o, .ref p, .str way, .ref q] (upd (upd H2 d (.own o)) o (.ins c.moves d [])) (fun v H' => v = .non ∧ Qc o H') E0 := by
  intro o d no nd' ne
  have keep : ∀ b u, H2 b = some u → (upd (upd H2 d (.own o)) o (.ins c.moves d [])) b = some u := fun b u z => by rw [upd_ne (ne_of_none z no), upd_ne (ne_of_none z nd')]; exact z
  refine ⟨o, d, p, q, .str way, _, _, rfl, upd_same, keep _ _ hp, keep _ _ hq, fun H8 dx' a' b' off hx' ha hb' na nb => ⟨rfl, ?_⟩⟩
  have s8 : Same H2 H8 := same_new no nd' off
  have back : ∀ z, (upd (upd H2 d (.own o)) o (.ins c.moves d [])) z = none → H2 z = none := fun z q => by
    cases hh : H2 z with
    | none => rfl
    | some u => rw [keep _ _ hh] at q; cases q
  exact kk H8 o s8 no fun V hv => ⟨dx', a', b', hx', ⟨us, ha, hlen, fun i t y q1 q2 => s8 _ _ (ht i t y q1 q2)⟩, hb', fun e => hv (e ▸ back _ na), fun e => hv (e ▸ back _ nb)⟩
section
variable {P : Program} {w : World} {K : PySem.W.Frag} {mg : Str → Option Value} {base : Heap} {c : Cs}
abbrev sBar : Stmt := top 42
abbrev nBar : List Str := ["found", "readers", "names", "before", "limits", "total", "name", "load", "low", "high"]
theorem scBar : FnScope nBar ["found", "readers", "names", "before", "limits"] (defScope sBar) := ⟨rfl, rfl, rfl, by decide +kernel, rfl, by decide +kernel, by decide +kernel⟩
theorem ok_bar {f : Addr} {fd : FuncData} (F : Fun K "_law_bar" "_law_bar" sBar f fd) (T : TxD mg) (R : TxE P K mg c) : FnOk P w K mg base CX0 2 f fd ["found", "readers", "names", "before", "limits"] (spBar c) := by
  refine F.ok scBar (fun vs H Q E h => ?_) (fun cdv A outer s H vs Q E hr h => ?_)
  · obtain ⟨x, rl, nl, bl, ll, ys, way, rs0, rs, ns, l, lo, hi, rfl, _⟩ := h
    rfl
  · obtain ⟨x, rl, nl, bl, ll, ys, way, rs0, rs, ns, l, lo, hi, rfl, ev, hrl, hnl, hbl, hll, few, k⟩ := h
    have nd := scBar.nd
    obtain ⟨dx, a, b, hx, hm, hb⟩ := ev.at_
    obtain ⟨ts, t1, t2, t3⟩ := hll.at_
    refine ⟨_, (pss_cons (ps_set (i := 5) nd rfl (Or.inl rfl) (pe_int))
      (pss_cons (ps_for PassesOwn.never rfl (pi_zip3 (by rfl) T.zip (pa_cons (pv 2) (pa_cons (pv 3) (pa_cons (pv 4) pa_nil)))) (pg_tup rfl (pgs_cons (pg_name (i := 6) nd rfl (Or.inl rfl)) (pgs_cons (pg_name (i := 7) nd rfl (Or.inl rfl)) (pgs_cons (pg_tup rfl (pgs_cons (pg_name (i := 8) nd rfl (Or.inl rfl)) (pgs_cons (pg_name (i := 9) nd rfl (Or.inl rfl)) pgs_nil))) pgs_nil))))
        (pss_one (ps_if (pt_cmpR op_in_seq (pv 6) (pv 1) rfl)
          (pss_one (ps_aug (i := 5) nd rfl (Or.inl rfl) (pe_ifExp (pt_cmpR op_eq (pe_fld (pv 0) rfl) pe_str (nomark _)) (pe_callB (call_max2 rfl) (by rfl) T.max (by decide +kernel) (pa_cons pe_int (pa_cons (pe_op op_sub (pv 7) (pv 9)) pa_nil))) (pe_callB (call_max2 rfl) (by rfl) T.max (by decide +kernel) (pa_cons pe_int (pa_cons (pe_op op_sub (pv 8) (pv 7)) pa_nil)))) ip_add))
          pss_nil)))
      (pss_one (ps_ret (pv 5))))), ?_⟩
    rw [List.length_map] at t2
    refine into ⟨_, rfl, _, rfl, _, rfl, nl, bl, ll, _, _, _, rfl, SqL.of hnl, SqL.of hbl, SqL.of t1, ?_⟩
    have all2 : ∀ (i : Nat) (n : Str), ns[i]? = some n → (ns.map fun n => (lo n, hi n))[i]? = some (lo n, hi n) := fun i n hn => by rw [List.getElem?_map, hn]; rfl
    refine for_it (walk_tri (xs := ns.map V.str) (ys := (ns.map l).map V.int) (zs := ts.map V.ref) (by simp) (by simp [t2])) (fun i σ H' => (∃ y6 y7 y8 y9, σ = [some (.ref x), some (.ref rl), some (.ref nl), some (.ref bl), some (.ref ll), some (.int (sumF (barF l lo hi way rs) (ns.take i))), y6, y7, y8, y9]) ∧ Same H H') ⟨⟨_, _, _, _, rfl⟩, Same.refl H⟩ (fun i σ H' _ z => ⟨SqL.of (z.2 _ _ hnl), SqL.of (z.2 _ _ hbl), SqL.of (z.2 _ _ t1)⟩) ?_ ?_
    · rintro i v σ H1 H2 hi' ⟨⟨y6, y7, y8, y9, rfl⟩, e1⟩ ⟨TT, vn, vl, vt, rfl, nT, rfl, q1, q2, q3⟩
      obtain ⟨n, hn, rfl⟩ := str_at q1
      obtain ⟨t, ht, rfl⟩ := ref_at q3
      have el : vl = .int (l n) := by
        rw [List.getElem?_map, List.getElem?_map, hn] at q2
        exact (Option.some.inj q2).symm
      subst el
      have tup := t3 i t _ ht (all2 i n hn)
      have e2 : Same H1 (upd H1 TT (.tup [.str n, .int (l n), .ref t])) := made nT
      have e02 := e1.trans e2
      refine ⟨TT, _, rfl, SqT.of upd_same, rfl, _, _, rfl, _, _, rfl, _, _, rfl, t, _, rfl, SqT.of (e02 _ _ tup), rfl, _, _, rfl, _, _, rfl, rfl, rfl, ?_⟩
      generalize upd H1 TT (.tup [.str n, .int (l n), .ref t]) = H3 at e2 e02 ⊢
      refine ⟨_, rfl, _, rfl, rl, _, rfl, .inl (SqL.of (e02 _ _ hrl)), rfl, flat_strs rs, _, rfl, ?_⟩
      rw [in_strs]
      have step : sumF (barF l lo hi way rs) (ns.take (i + 1)) = sumF (barF l lo hi way rs) (ns.take i) + barF l lo hi way rs n := by
        rw [take_snoc hn, sumF_append]
        show _ + (barF l lo hi way rs n + 0) = _
        omega
      rw [step]
      by_cases c1 : n ∈ rs
      · refine iteT' (by rw [decide_eq_true c1]; rfl) ?_
        have hx3 := e02 _ _ hx
        refine ⟨_, rfl, _, rfl, x, _, dx, _, _, rfl, hx3, R.Moves.cl, R.n_way, mF_way, rfl, _, rfl, ?_⟩
        by_cases c2 : way = "leaving"
        · rw [show barF l lo hi way rs n = if l n - hi n > 0 then l n - hi n else 0 by
            unfold barF needT
            rw [if_pos c1, if_pos c2]
            split <;> omega]
          exact iteT' (decide_eq_true (by rw [c2])) ⟨_, rfl, _, rfl, _, _, rfl, rfl, _, _, rfl, _, _, rfl, rfl, ⟨_, _, _, _, rfl⟩, e02⟩
        · rw [show barF l lo hi way rs n = if lo n - l n > 0 then lo n - l n else 0 by
            unfold barF needT
            rw [if_pos c1, if_neg c2]
            split <;> omega]
          exact iteF' (fun z => c2 (V.str.inj (of_decide_eq_true z))) ⟨_, rfl, _, rfl, _, _, rfl, rfl, _, _, rfl, _, _, rfl, rfl, ⟨_, _, _, _, rfl⟩, e02⟩
      · rw [show barF l lo hi way rs n = 0 from if_neg c1, Int.add_zero]
        exact iteF' (by rw [decide_eq_false c1]; exact Bool.false_ne_true) ⟨⟨_, _, _, _, rfl⟩, e02⟩
    · rintro σ H1 ⟨⟨y6, y7, y8, y9, rfl⟩, e1⟩
      rw [List.length_map, List.take_length]
      exact ⟨_, rfl, k _ e1⟩
abbrev sSpoilt : Stmt := top 43
abbrev nSpoilt : List Str := ["found", "moves", "readers", "wrong"]
theorem scSpoilt : FnScope nSpoilt ["found"] (defScope sSpoilt) := ⟨rfl, rfl, rfl, by decide +kernel, rfl, by decide +kernel, by decide +kernel⟩
theorem spoilt_B {f fI : Addr} {fdI : FuncData} {cdv : Value} {A : Around} {outer : List Env} {s : Shared} {H0 : Hp} {E : XK} (T : TxD mg) (R : TxE P K mg c) (M_Moves : Mk K c.moves fI) (G_Moves : FnOk P w K mg base CX0 1 fI fdI ["self", "moves", "way", "readers"] (spMI c)) (b_Moves : Binds K fdI ["self", "moves", "way", "readers"] [])
    (hr : Room 2 (cxOf CX0 P w K mg base nSpoilt "_law_spoilt" (defScope sSpoilt) f cdv A outer s H0 E).nox.A) :
    ∃ t, PSs (cxOf CX0 P w K mg base nSpoilt "_law_spoilt" (defScope sSpoilt) f cdv A outer s H0 E).nox ((defBody sSpoilt).drop 3) t ∧ ∀ (H2 : Hp) (x a b W dx : Addr) (ys : List (Str × Str × Str)) (way : Str) (rs : List Str) (ts : List Addr) (pre : List (List (Str × Str × Str) × List Str)) (D : Ends),
      H2 x = some (.ins c.moves dx (mF a (.str way) b)) → H2 a = some (.lst (ts.map V.ref)) → ts.length = ys.length → (∀ (i : Nat) (t : Addr) (y : Str × Str × Str), ts[i]? = some t → ys[i]? = some y → H2 t = some (.tup [.str y.1, .str y.2.1, .str y.2.2])) → H2 b = some (.lst (rs.map V.str)) → rs.length ≤ 100 → (∀ r ∈ rs, okS r) →
      EvsO c H2 W way pre → pre.length ≤ 2 → (∀ H', (∀ b o, H2 b = some o → b ≠ W → H' b = some o) → EvsO c H' W way (pre ++ if rs = [] then [] else [(ys, rs ++ rs.take 1)]) → D.rt (.ref W) H') → t D [some (.ref x), some (.ref a), some (.ref b), some (.ref W)] H2 := by
  have nd := scSpoilt.nd
  have hu := hr.units
  have hr_Moves : Room 2 _ := hr
  refine ⟨_, (pss_cons (ps_if (pt_cmpR (op_neD hu) (pv 2) (pe_lst pa_nil) (nomark _))
        (pss_one (ps_expr (pe_bm PySem.F.plainAttrs_list PySem.F.slot_list_append PySem.F.type_list_append mt_append (pv 3) (pa_cons (pe_make M_Moves G_Moves hr_Moves (by rfl) R.Moves.g b_Moves .nil pass0 (pa_cons (pv 1) (pa_cons (pe_fld (pv 0) rfl) (pa_cons (pe_op op_cat (pv 2) (pe_slice sl_list (pv 2) po_none (po_some pe_int))) pa_nil)))) pa_nil))))
        pss_nil)
      (pss_one (ps_ret (pv 3)))), ?_⟩
  intro H2 x a b W dx ys way rs ts pre D hx t1 t2 t3 hb rfew rok ev few k
  refine into ⟨_, rfl, Nat.zero_le _, fun Z nZ => ?_⟩
  have e2 : Same H2 (upd H2 Z (.lst [])) := made nZ
  refine ⟨.list (rs.map PyData.str), .list [], .lst (SqL.of (e2 _ _ hb)) (str_data rs), .lst (SqL.of upd_same) .nil, shaped_all (str_lay rs rok), rfl, _, rfl, ?_⟩
  rw [eqv_none]
  generalize upd H2 Z (.lst []) = H3 at e2
  obtain ⟨as, w1, w2, w3⟩ := ev
  cases rs with
  | nil =>
    refine iteF' (by simp) ⟨_, rfl, k H3 (fun b o z _ => e2 _ _ z) ⟨as, e2 _ _ w1, by rw [if_pos rfl, List.append_nil]; exact w2, fun i a e p q => ?_⟩⟩
    rw [if_pos rfl, List.append_nil] at q
    exact (w3 i a e p q).same e2
  | cons r rs =>
    rw [if_neg (by simp)] at k
    refine iteT' (by simp) ⟨_, rfl, .inl ⟨rfl, _, SqL.of (e2 _ _ w1)⟩, ?_⟩
    have hb3 := e2 _ _ hb
    refine ⟨_, rfl, _, rfl, x, _, dx, _, _, rfl, e2 _ _ hx, R.Moves.cl, R.n_way, mF_way, _, rfl, _, rfl, 1, rfl, b, _, rfl, SqL.of hb3, fun q nq => ?_⟩
    have e3 : Same H3 (upd H3 q (.lst (cutV ((r :: rs).map V.str) none (some 1)))) := made nq
    have hq : (upd H3 q (.lst (cutV ((r :: rs).map V.str) none (some 1)))) q = some (.lst (((r :: rs).take 1).map V.str)) := by rw [upd_same, cut_head, List.map_take]
    generalize upd H3 q (.lst (cutV ((r :: rs).map V.str) none (some 1))) = H4 at e3 hq ⊢
    refine ⟨b, q, _, _, rfl, rfl, e3 _ _ hb3, hq, by rw [List.length_map, List.length_map, List.length_take, sizeLine_eq]; omega, fun p np => ?_⟩
    have e4 : Same H4 (upd H4 p (.lst ((r :: rs).map V.str ++ ((r :: rs).take 1).map V.str))) := made np
    have hp : (upd H4 p (.lst ((r :: rs).map V.str ++ ((r :: rs).take 1).map V.str))) p = some (.lst ((r :: rs ++ (r :: rs).take 1).map V.str)) := by rw [upd_same, List.map_append]
    generalize upd H4 p (.lst ((r :: rs).map V.str ++ ((r :: rs).take 1).map V.str)) = H5 at e4 hp ⊢
    have e25 := e2.trans (e3.trans e4)
    refine ev_made (zs := ys) (ss := r :: rs ++ (r :: rs).take 1) H5 a p ts _ (e25 _ _ t1) t2 (fun i t y u v => e25 _ _ (t3 i t y u v)) hp fun H6 o e6 no evo => ?_
    have e26 := e25.trans e6
    have hW6 := e26 _ _ w1
    refine ⟨W, _, _, rfl, rfl, hW6, by rw [List.length_map, w2, sizeLine_eq]; omega, _, rfl, k _ (fun c' o' z n => by rw [upd_ne n]; exact e26 _ _ z) ?_⟩
    exact EvsO.snoc hW6 w2 (fun i a e u v => (w3 i a e u v).same e26) (evo W (by rw [e25 _ _ w1]; exact fun z => by cases z))
theorem ok_spoilt {f fI : Addr} {fd fdI : FuncData} (F : Fun K "_law_spoilt" "_law_spoilt" sSpoilt f fd) (T : TxD mg) (R : TxE P K mg c) (M_Moves : Mk K c.moves fI) (G_Moves : FnOk P w K mg base CX0 1 fI fdI ["self", "moves", "way", "readers"] (spMI c)) (b_Moves : Binds K fdI ["self", "moves", "way", "readers"] []) : FnOk P w K mg base CX0 3 f fd ["found"] (spSpoilt c) := by
  refine F.ok scSpoilt (fun vs H Q E h => ?_) (fun cdv A outer s H vs Q E hr h => ?_)
  · obtain ⟨x, ys, way, rs, rfl, _⟩ := h
    rfl
  · obtain ⟨x, ys, way, rs, rfl, ev, yfew, rfew, yok, rok, k⟩ := h
    have nd := scSpoilt.nd
    have hu := hr.units
    have hr_Moves : Room 2 _ := hr
    obtain ⟨dx, a, b, hx, hm, hb⟩ := ev.at_
    obtain ⟨ts, t1, t2, t3⟩ := hm.at_
    obtain ⟨t, hR, run⟩ := spoilt_B (P := P) (w := w) (base := base) (f := f) (cdv := cdv) (A := A) (outer := outer) (s := s) (H0 := H) (E := E) T R M_Moves G_Moves b_Moves hr
    refine ⟨_, (pss_cons (ps_par (i := 1) (j := 2) (by rfl) nd rfl rfl (by decide) rfl rfl (pa_cons (pe_fld (pv 0) rfl) (pa_cons (pe_fld (pv 0) rfl) pa_nil)) (by rfl))
      (pss_cons (ps_set (i := 3) nd rfl (Or.inl rfl) (pe_lst pa_nil))
      (pss_cons (ps_if (pt_cmpR (op_neD hu) (pv 1) (pe_lst pa_nil) (nomark _))
        (pss_cons (ps_expr (pe_bm PySem.F.plainAttrs_list PySem.F.slot_list_append PySem.F.type_list_append mt_append (pv 3) (pa_cons (pe_make M_Moves G_Moves hr_Moves (by rfl) R.Moves.g b_Moves .nil pass0 (pa_cons (pe_op op_cat (pv 1) (pe_slice sl_list (pv 1) po_none (po_some pe_int))) (pa_cons (pe_fld (pv 0) rfl) (pa_cons (pv 2) pa_nil)))) pa_nil)))
        (pss_one (ps_expr (pe_bm PySem.F.plainAttrs_list PySem.F.slot_list_append PySem.F.type_list_append mt_append (pv 3) (pa_cons (pe_make M_Moves G_Moves hr_Moves (by rfl) R.Moves.g b_Moves .nil pass0 (pa_cons (pe_slice sl_list (pv 1) (po_some pe_int) po_none) (pa_cons (pe_fld (pv 0) rfl) (pa_cons (pv 2) pa_nil)))) pa_nil)))))
        pss_nil)
      hR))), ?_⟩
    refine into ⟨_, rfl, x, _, dx, _, _, rfl, hx, R.Moves.cl, R.n_moves, mF_moves, _, rfl, x, _, dx, _, _, rfl, hx, R.Moves.cl, R.n_readers, mF_readers, _, _, rfl, ?_⟩
    refine into ⟨Nat.zero_le _, fun W nW => ?_⟩
    have e1 : Same H (upd H W (.lst [])) := made nW
    have hW : (upd H W (.lst [])) W = some (.lst []) := upd_same
    generalize upd H W (.lst []) = H1 at e1 hW ⊢
    refine into ⟨_, rfl, Nat.zero_le _, fun Z nZ => ?_⟩
    have e2 : Same H1 (upd H1 Z (.lst [])) := made nZ
    have e02 := e1.trans e2
    refine ⟨.list (ys.map movD), .list [], .lst (SqL.of (e02 _ _ t1)) (mov_data ts ys t2 fun i t y p q => e02 _ _ (t3 i t y p q)), .lst (SqL.of upd_same) .nil, shaped_all (mov_lay ys yok), rfl, _, rfl, ?_⟩
    rw [eqv_none]
    have hW2 := e2 _ _ hW
    generalize upd H1 Z (.lst []) = H2 at e2 e02 hW2
    cases ys with
    | nil =>
      refine iteF' (by simp) ?_
      refine run H2 x a b W dx [] way rs ts [] _ (e02 _ _ hx) (e02 _ _ t1) t2 (fun i t y p q => by cases q) (e02 _ _ hb) rfew rok ⟨[], hW2, rfl, fun i a e p => by cases p⟩ (by decide) fun H' kp ev => ?_
      exact k H' W (fun b o z => kp _ _ (e02 _ _ z) (ne_of_none z nW)) ev.evs
    | cons y ys =>
      refine iteT' (by simp) ?_
      rw [show spoilt (y :: ys) rs = [(y :: ys ++ (y :: ys).take 1, rs), ((y :: ys).drop 1, rs)] ++ (if rs = [] then [] else [(y :: ys, rs ++ rs.take 1)]) from by unfold spoilt; rw [if_neg (by simp)]] at k
      have t1' := e02 _ _ t1
      -- the first move once more
      refine into ⟨_, rfl, .inl ⟨rfl, _, SqL.of hW2⟩, _, rfl, _, rfl, 1, rfl, a, _, rfl, SqL.of t1', fun q nq => ?_⟩
      have e3 : Same H2 (upd H2 q (.lst (cutV (ts.map V.ref) none (some 1)))) := made nq
      have hq : (upd H2 q (.lst (cutV (ts.map V.ref) none (some 1)))) q = some (.lst ((ts.take 1).map V.ref)) := by rw [upd_same, cut_head, List.map_take]
      generalize upd H2 q (.lst (cutV (ts.map V.ref) none (some 1))) = H3 at e3 hq ⊢
      rw [List.length_cons] at t2 yfew
      refine ⟨a, q, _, _, rfl, rfl, e3 _ _ t1', hq, by rw [List.length_map, List.length_map, List.length_take, sizeLine_eq]; omega, fun p np => ?_⟩
      have e4 : Same H3 (upd H3 p (.lst (ts.map V.ref ++ (ts.take 1).map V.ref))) := made np
      have hp : (upd H3 p (.lst (ts.map V.ref ++ (ts.take 1).map V.ref))) p = some (.lst ((ts ++ ts.take 1).map V.ref)) := by rw [upd_same, List.map_append]
      generalize upd H3 p (.lst (ts.map V.ref ++ (ts.take 1).map V.ref)) = H4 at e4 hp ⊢
      have e24 := e3.trans e4
      have e04 := e02.trans e24
      have t2c : ts.length = (y :: ys).length := t2
      refine ⟨_, rfl, x, _, dx, _, _, rfl, e04 _ _ hx, R.Moves.cl, R.n_way, mF_way, _, rfl, ?_⟩
      refine ev_made (zs := y :: ys ++ (y :: ys).take 1) (ss := rs) H4 p b (ts ++ ts.take 1) _ hp (by rw [List.length_append, List.length_append, List.length_take, List.length_take, t2c]) (get_append t2c (fun i t z u v => e04 _ _ (t3 i t z u v)) fun i t z u v => ?_) (e04 _ _ hb) fun H5 o e5 no evo => ?_
      · have i1 : i < 1 := by
          have := (List.getElem?_eq_some_iff.mp u).1
          rw [List.length_take] at this; omega
        rw [List.getElem?_take_of_lt i1] at u v
        exact e04 _ _ (t3 i t z u v)
      have e05 := e04.trans e5
      have hW5 := e5 _ _ (e24 _ _ hW2)
      have ev1 := EvsO.snoc (c := c) (way := way) (es := []) (as := []) hW5 rfl (fun i a e u => by cases u) (evo W (by rw [e24 _ _ hW2]; exact fun z => by cases z))
      refine ⟨W, _, _, rfl, rfl, hW5, Nat.zero_lt_succ _, ?_⟩
      have k6 : ∀ b u, H b = some u → (upd H5 W (.lst [.ref o])) b = some u := fun b u z => by
        rw [upd_ne (ne_of_none z nW)]; exact e05 _ _ z
      have hW6 : (upd H5 W (.lst [.ref o])) W = some (.lst [.ref o]) := upd_same
      change EvsO c (upd H5 W (.lst [.ref o])) W way _ at ev1
      rw [List.nil_append]
      generalize upd H5 W (.lst [.ref o]) = H6 at ev1 k6 hW6 ⊢
      -- without the first move
      refine ⟨_, rfl, .inl ⟨rfl, _, SqL.of hW6⟩, _, rfl, 1, rfl, a, _, rfl, SqL.of (k6 _ _ t1), fun q nq => ?_⟩
      have e7 : Same H6 (upd H6 q (.lst (cutV (ts.map V.ref) (some 1) none))) := made nq
      have hq : (upd H6 q (.lst (cutV (ts.map V.ref) (some 1) none))) q = some (.lst ((ts.drop 1).map V.ref)) := by rw [upd_same, cut_tail, List.map_drop]
      generalize upd H6 q (.lst (cutV (ts.map V.ref) (some 1) none)) = H7 at e7 hq ⊢
      refine ⟨_, rfl, x, _, dx, _, _, rfl, e7 _ _ (k6 _ _ hx), R.Moves.cl, R.n_way, mF_way, _, rfl, ?_⟩
      refine ev_made (zs := (y :: ys).drop 1) (ss := rs) H7 q b (ts.drop 1) _ hq (by rw [List.length_drop, List.length_drop, t2c]) (fun i t z u v => ?_) (e7 _ _ (k6 _ _ hb)) fun H8 o2 e8 no2 evo2 => ?_
      · rw [List.getElem?_drop] at u v
        exact e7 _ _ (k6 _ _ (t3 (1 + i) t z u v))
      have e68 := e7.trans e8
      obtain ⟨as, w1, w2, w3⟩ := ev1
      have hW8 := e68 _ _ w1
      have as1 : as = [o] := by
        rw [hW6] at w1
        have := HO.lst.inj (Option.some.inj w1)
        match as, this with
        | [a], h => injection h with h1 h2; injection h1 with h1; rw [h1]
      refine ⟨W, _, _, rfl, rfl, hW8, by rw [List.length_map, w2, sizeLine_eq]; show 1 < _; omega, ?_⟩
      have ev2 := EvsO.snoc hW8 w2 (fun i a e u v => (w3 i a e u v).same e68) (evo2 W (by rw [e7 _ _ w1]; exact fun z => by cases z))
      have k9 : ∀ b u, H b = some u → (upd H8 W (.lst (as.map V.ref ++ [.ref o2]))) b = some u := fun b u z => by
        rw [upd_ne (ne_of_none z nW)]; exact e68 _ _ (k6 _ _ z)
      generalize upd H8 W (.lst (as.map V.ref ++ [.ref o2])) = H9 at ev2 k9 ⊢
      refine run H9 x a b W dx (y :: ys) way rs ts _ _ (k9 _ _ hx) (k9 _ _ t1) t2c (fun i t z u v => k9 _ _ (t3 i t z u v)) (k9 _ _ hb) rfew rok ev2 (by simp) fun H' kp ev => ?_
      exact k H' W (fun b u z => kp _ _ (k9 _ _ z) (ne_of_none z nW)) ev.evs
end
end KD
end
section
/-! Several except clauses, each of which names its error. -/
namespace L2
open PySem PySem.Spec PyProof.Rows
/-- what a clause says: its class, the slot of its name, its suite -/
abbrev Cl1 := Value × Nat × (Addr → Value → Option Addr → TS)
/-- what is wished of an error: the first clause that takes it, none: as without them -/
def wEach (K : PySem.W.Frag) (none_ : WX) (D : Ends) : List Cl1 → WX
  | [] => none_
  | k :: ks => wAs K k.1 k.2.1 k.2.2 (wEach K none_ D ks) D
inductive Clauses (X : Cx) : List ExceptHandler → List Cl1 → Prop
  | none_ : Clauses X [] []
  | more {cn n : Str} {k : Cl1} {s1 : Stmt} {ss : List Stmt} {p1 p2 : Pos} {es : List ExceptHandler} {ks : List Cl1} (slot : X.N[k.2.1]? = some n) (loc : X.env.kindOf n = some .local) (named : Names X cn k.1)
      (suite : ∀ a oe cls d pn, Zc cls d oe → (∃ vs, oe.data = .fields vs) → PSs (X.suite a ((a, oe) :: pn)) (s1 :: ss) (k.2.2 a cls d)) (rest : Clauses X es ks) : Clauses X (.ExceptHandler (some (.Name cn p1)) (some n) (s1 :: ss) p2 :: es) (k :: ks)
section
variable {X : Cx} {pins : List (Addr × Obj)} {D : Ends} {Wout : WX}
/-- an error that has come down to the clauses -/
structure Caught (X : Cx) (pins : List (Addr × Obj)) (a : Addr) (cls : Value) (d : Option Addr) (σ : St) (H : Hp) (s : Shared) : Prop where
  kin : X.K.In s.heap
  free : H a = none
  obj : ∃ oe vs, s.heap.get? a = some oe ∧ Zc cls d oe ∧ oe.data = .fields vs
  inv : ∀ oe, s.heap.get? a = some oe → (∃ vs, oe.data = .fields vs) → Inv (X.suite a ((a, oe) :: (X.pn ++ pins))) [] σ H s
  lands : ∀ Q : Shared → Prop, (∀ g4 oe vs, g4.get? a = some oe → Zc cls d oe → oe.data = .fields vs → Inv (X.suite a ((a, oe) :: (X.pn ++ pins))) [] σ H { s with heap := g4 } → Q { s with heap := g4 }) → ∀ E, wpAny (model X.prog X.w) (X.A.mark (some (.ref a))) (setFlight (.ref a) none) (fun _ => Q) E s
/-- the clauses one after the other; on: what happens where none takes it -/
theorem each_clause (ok : X.Ok) (nod : X.N.Nodup) {a : Addr} {cls : Value} {d : Option Addr} {σ : St} {H : Hp} {s : Shared} (c : Caught X pins a cls d σ H s) (on : Wout cls d σ H → wpAny (model X.prog X.w) X.A (handleBy (.ref a) X.env []) (SP X pins D) X.xe s) :
    ∀ {es : List ExceptHandler} {ks : List Cl1}, Clauses X es ks → wEach X.K Wout D ks cls d σ H → wpAny (model X.prog X.w) X.A (handleBy (.ref a) X.env es) (SP X pins D) X.xe s := by
  intro es ks cl
  induction cl with
  | none_ => exact on
  | @more cn n k s1 ss p1 p2 es ks slot loc named suite rest ih =>
    rintro ⟨b, takes, yes, no⟩
    obtain ⟨oe, vs, at_, zc, dat⟩ := c.obj
    have S := c.inv oe at_ ⟨vs, dat⟩
    refine wpAny_handleBy_cons (codeAny_handlers_test ?_) (fun z => by cases z)
    have looks : PySem.W.Looks (model X.prog X.w) s.heap (typeOf (.ref a)) cls := fun A Q E s' k q => wpAny_typeOf_ref (k _ _ at_) (by rw [zc.1]; exact q)
    have matches_ := PySem.W.exm_one (M := model X.prog X.w) c.kin looks takes
    have name_ : ∀ {Q : Value → Shared → Prop} {E : Value → Shared → Prop}, Q k.1 s → wpAny (model X.prog X.w) (X.A.mark (some (.ref a))) (eval (.Name cn p1) X.env) Q E s := by
      intro Q E q
      obtain ⟨g, db, m | ⟨m, bt, ne⟩⟩ := named
      · exact ld_glob (X := X.suite a ((a, oe) :: (X.pn ++ pins))) S g m q db
      · exact ld_blt (X := X.suite a ((a, oe) :: (X.pn ++ pins))) S g m bt q ne db
    refine name_ (matches_.here ?_)
    cases b with
    | false => exact ih (no rfl)
    | true =>
      refine codeAny_handlers_suite_as (c.lands _ (fun g4 o4 v4 at4 z4 d4 S4 => ?_) _)
      refine store_ok (X := X.suite a ((a, o4) :: (X.pn ++ pins))) (v := .ref a) S4 nod slot (.inl loc) rfl (fun s5 S5 => ?_) (.inr loc)
      refine wpAny_mono ((suite a o4 cls d (X.pn ++ pins) z4 ⟨_, d4⟩).run [] s5 _ H _ S5 (yes rfl a c.free)) (fun f s6 r => ?_) fun _ _ z => z.elim
      cases f <;> first
        | (obtain ⟨σ6, H6, S6, q6⟩ := r; exact gone_ok (S6.unsuite ok) nod slot loc fun s7 J => ⟨_, _, J, q6⟩)
        | (obtain ⟨v6, σ6, H6, S6, r6, q6⟩ := r; exact gone_ok (S6.unsuite ok) nod slot loc fun s7 J => ⟨_, _, _, J, r6, q6⟩)
end
section
variable {X : Cx} {body : List Stmt} {e1 : ExceptHandler} {es : List ExceptHandler} {ks : List Cl1} {pos : Pos} {tb : WX → TS} {Wout : WX}
theorem ps_try_each (stk : X.stack = X.env :: X.outer) (frm : X.env.frame = some X.env.locals) (nod : X.N.Nodup) (tk : Takes X Wout)
    (hb : ∀ (W : WX) (pn : List (Addr × Obj)) (xe : Value → Shared → Prop), Takes (X.tr pn xe) W → PassesOwn (model X.prog X.w) X.A X.env xe → PSs (X.tr pn xe) body (tb W)) (cl : Clauses X (e1 :: es) ks) : PS X (.Try body (e1 :: es) [] [] pos) (fun D σ H => tb (wEach X.K Wout D ks) D σ H) := by
  constructor
  intro pins s σ H D I h
  have ok := I.ok
  have frames : X.A.frames = some (X.env :: X.outer) := by rw [ok.frames, stk]
  refine wpAny_Try_except (wpAny_mono ((hb (wEach X.K Wout D ks) (X.pn ++ pins) (fun e s₁ => wpAny (model X.prog X.w) X.A (noteFrame e X.env) (fun _ s₂ => wpAny (model X.prog X.w) X.A (setFlight e none) (fun _ s₃ =>
    wpAny (model X.prog X.w) X.A (handleBy e X.env (e1 :: es)) (SP X pins D) X.xe s₃) X.xe s₂) X.xe s₁) (fun u s' xx => ?_) PassesOwn.looking).run [] s σ H D (I.toTry _) h) (fun f s1 r => ?_) (fun _ _ z => z))
  · obtain ⟨a, B, sB, pins', σ', H', cls, d, rfl, J', nb, up, sky, na, os, ag, w⟩ := xx
    have J : Inv X pins σ' H' sB := J'.ofTry ok
    have sky' : Sky B (X.env :: X.outer) a (Zc cls d) X.env.locals s'.heap := by rw [← stk]; exact sky
    show wpAny _ _ (noteFrame (Value.ref a) X.env) _ _ _
    refine Sky.land Zc.steady frames frm sky' fun g3 fy u3 => ?_
    have Jy : Inv X pins σ' H' { s' with heap := g3 } := J.landed nb fy.1 (up.trans u3) os ag
    obtain ⟨oe3, vs3, at3, z3, d3⟩ := fy.there
    -- the error is none of the frames
    have out : a ∉ frs (X.env :: X.outer) := fun m => by
      obtain ⟨_, o', e', no⟩ := fy.2.2.1.mem m
      rw [at3] at e'; cases e'
      exact no _ d3
    have aL : a ≠ X.env.locals := fun z => out (List.mem_filterMap.mpr ⟨X.env, List.mem_cons_self, by rw [frm, z]⟩)
    have aF : a ∉ X.fs := fun m => by
      obtain ⟨e, he, q⟩ := List.mem_filterMap.mp m
      exact out (List.mem_filterMap.mpr ⟨e, List.mem_cons_of_mem _ he, q⟩)
    refine each_clause ok nod ⟨Jy.kIn, na, ⟨oe3, vs3, at3, z3, d3⟩, fun oe e ⟨vs, q⟩ => Jy.suite e q na aL aF, fun Q k E => ?_⟩ (fun wo => ?_) cl w
    · refine HandSPX.lands_againZ fy fun g4 fz u4 => ?_
      obtain ⟨oe4, vs4, at4, z4, d4⟩ := fz.there
      have Jz : Inv X pins σ' H' { s' with heap := g4 } := J.landed nb fz.1 ((up.trans u3).trans u4) os ag
      exact k g4 oe4 vs4 at4 z4 d4 (Jz.suite at4 d4 na aL aF)
    · refine wpAny_handleBy_nil ?_
      obtain ⟨_, _, _, oe, vs, T, oT, _, he, hz, hd, h1, _⟩ := id fy
      unfold PySem.passOn
      refine wpAny_bind (wpAny_field he hd h1 ?_); rw [if_neg (by simp)]
      have fini : wpAny (model X.prog X.w) X.A (setFlight (.ref a) X.env.frame) (fun _ s4 => wpAny (model X.prog X.w) X.A (throw (.ref a) : Sem Flow) (SP X pins D) X.xe s4) X.xe { s' with heap := g3 } := by
        rw [frm]
        refine HandSPX.setFlight_upZ fy fun g4 sky4 u4 => wpAny_throw (tk _ _ ⟨a, B, sB, pins, σ', H', cls, d, rfl, J, nb, (up.trans u3).trans u4, .inr (.inr (by rw [stk]; exact sky4)), na, os, ag, wo⟩)
      first | exact wpAny_bind fini | exact wpAny_bind (wpAny_pure (wpAny_bind fini))
  · cases f with
    | next => exact wpAny_execs_nil (let ⟨σ', H', J', q⟩ := r; ⟨σ', H', J'.ofTry ok, q⟩)
    | brk => exact let ⟨σ', H', J', q⟩ := r; ⟨σ', H', J'.ofTry ok, q⟩
    | cont => exact let ⟨σ', H', J', q⟩ := r; ⟨σ', H', J'.ofTry ok, q⟩
    | ret u => exact let ⟨v, σ', H', J', q1, q⟩ := r; ⟨v, σ', H', J'.ofTry ok, q1, q⟩
end
end L2
end
section
/-! The law's question what is told. -/
namespace KD
open PySem PySem.Spec PyProof.Rows L2 LamX
/-- told: try: a() / except .. -/
def TTtold (c : Cs) : (XK → Hp → VK → Prop) → Hp → VK → Prop := fun tl H Q => tl (fun cls d H' =>
  (cls = .ref c.no ∧ (∃ dd, d = some dd ∧ H' dd = some (.xd [(("tick" : PySem.Str), .int 0)])) ∧ ∀ t, H' t = none → Q (.ref t) (upd H' t (.tup [.str "NoDeal", .int 0]))) ∨
  (cls = .ref c.bad ∧ d = none ∧ Q (.str "BadDeal") H') ∨ (cls = .ref c.bnd ∧ d = none ∧ Q (.str "BadBounds") H')) H (fun _ H' => Q .non H')
section
variable {P : Program} {w : World} {K : PySem.W.Frag} {mg : PySem.Str → Option Value} {base : Heap} {c : Cs}
abbrev sToldL : Stmt := top 40
abbrev nToldL : List PySem.Str := ["deed", "error"]
theorem scToldL : FnScope nToldL ["deed"] (defScope sToldL) := ⟨rfl, rfl, rfl, by decide +kernel, rfl, by decide +kernel, by decide +kernel⟩
def ts1 (c : Cs) : Addr → Value → Option Addr → TS := fun a cls d D σ H => cls = .ref c.no ∧ (∃ dd, d = some dd ∧ H dd = some (.xd [(("tick" : PySem.Str), .int 0)])) ∧ (∃ σ0 : L2.St, σ = σ0.set 1 (some (.ref a))) ∧ ∀ t, H t = none → D.rt (.ref t) (upd H t (.tup [.str "NoDeal", .int 0]))
def ts2 (C : Addr) (s : PySem.Str) : Addr → Value → Option Addr → TS := fun a cls d D σ H => cls = .ref C ∧ d = none ∧ (∃ σ0 : L2.St, σ = σ0.set 1 (some (.ref a))) ∧ D.rt (.str s) H
theorem told_gives {X : Cx} {g : Addr} {cdg : Value} {q : PySem.Str} (hK : X.K = K) (hmg : X.mg = mg) (hP : X.prog = P) (T : TxD mg) (R : TxE P K mg c) : GivesTo X nToldL "_law_told" (defScope sToldL) g cdg (defBody sToldL) "deed" q (TTtold c) := by
  subst hK hmg hP
  intro f c' s H Q tl act hc h
  have nd := scToldL.nd
  refine ⟨_, pss_cons (ps_try_each (X := (cxOf C8.CX0 X.prog X.w X.K X.mg X.base nToldL "_law_told" (defScope sToldL) g cdg X.A X.stack s H C8.E0).nox)
      (tb := fun (W : WX) (D : Ends) (σ : L2.St) (H : Hp) => ∃ Ech : XK, (∀ (cls : Value) (d : Option Addr) (σ' : L2.St) (H' : Hp), Ech cls d H' → W cls d σ' H') ∧ σ[0]? = some (some (.ref f)) ∧ H c' = some (CodeO c' q) ∧ tl Ech H fun _ H' => D.nx σ H')
      rfl rfl nd LamX.takes0 (fun W pn xe tk _ => ?_)
      (.more (k := (.ref c.no, 1, ts1 c)) rfl rfl ⟨rfl, by decide, Or.inl R.e_NoDeal.gC⟩ (fun a oe cls d pn hz hf => ?_)
        (.more (k := (.ref c.bad, 1, ts2 c.bad "BadDeal")) rfl rfl ⟨rfl, by decide, Or.inl R.e_BadDeal.c⟩ (fun a oe cls d pn hz hf => ?_)
          (.more (k := (.ref c.bnd, 1, ts2 c.bnd "BadBounds")) rfl rfl ⟨rfl, by decide, Or.inl R.e_BadBounds.c⟩ (fun a oe cls d pn hz hf => ?_) .none_)))) (pss_one (ps_ret pe_non)), ?_⟩
  · exact ⟨fun kept st σ Hn Dn inv ⟨Er, toW, slot, code, told⟩ => (pss_one (ps_expr (act W pn xe Er _ _ tk toW))).run kept st σ Hn Dn inv ⟨slot, code, told⟩⟩
  · refine ⟨fun pins st σ Hn Dn I ⟨e1, ⟨dd, e2, hd⟩, ⟨σ0, e3⟩, h2⟩ => ?_⟩
    subst e1 e2 e3
    have len : (σ0.set 1 (some (V.ref a))).length = 2 := I.len
    rw [List.length_set] at len
    have h1 : (σ0.set 1 (some (V.ref a)))[1]? = some (some (V.ref a)) := by rw [List.getElem?_set_self (by omega)]
    exact (pss_one (ps_ret (pe_tup (pa_cons pe_str (pa_cons (pe_xf (X := (cxOf C8.CX0 X.prog X.w X.K X.mg X.base nToldL "_law_told" (defScope sToldL) g cdg X.A X.stack s H C8.E0).nox) (xfcT_of R.e_NoDeal) R.e_NoDeal.noN hz hf (pv 1)) pa_nil))))).run pins st _ Hn Dn I ⟨_, h1, rfl, rfl, dd, _, _, rfl, hd, rfl, by show 2 ≤ sizeLine; decide, fun t nt => h2 t nt⟩
  · refine ⟨fun pins st σ Hn Dn I ⟨e1, e2, ⟨σ0, e3⟩, h2⟩ => ?_⟩
    subst e1 e2 e3
    have len : (σ0.set 1 (some (V.ref a))).length = 2 := I.len
    rw [List.length_set] at len
    have h1 : (σ0.set 1 (some (V.ref a)))[1]? = some (some (V.ref a)) := by rw [List.getElem?_set_self (by omega)]
    exact (pss_one (ps_ret (pe_ifExp (pt_val (pe_callB (call_isE (X := (cxOf C8.CX0 X.prog X.w X.K X.mg X.base nToldL "_law_told" (defScope sToldL) g cdg X.A X.stack s H C8.E0).nox) R.e_BadDeal.e hz hf) (by rfl) T.isinstance (by decide +kernel) (pa_cons (pv 1) (pa_cons (pe_glob (v := .ref c.broker) (by rfl) R.g_Broker rfl) pa_nil)))) pe_str pe_str))).run pins st _ Hn Dn I ⟨_, h1, .ref c.broker, .ref c.broker, true, rfl, fun u r => r, R.e_BadDeal.ki, _, rfl, iteT h2⟩
  · refine ⟨fun pins st σ Hn Dn I ⟨e1, e2, ⟨σ0, e3⟩, h2⟩ => ?_⟩
    subst e1 e2 e3
    have len : (σ0.set 1 (some (V.ref a))).length = 2 := I.len
    rw [List.length_set] at len
    have h1 : (σ0.set 1 (some (V.ref a)))[1]? = some (some (V.ref a)) := by rw [List.getElem?_set_self (by omega)]
    exact (pss_one (ps_ret (pe_ifExp (pt_val (pe_callB (call_isE (X := (cxOf C8.CX0 X.prog X.w X.K X.mg X.base nToldL "_law_told" (defScope sToldL) g cdg X.A X.stack s H C8.E0).nox) R.e_BadBounds.e hz hf) (by rfl) T.isinstance (by decide +kernel) (pa_cons (pv 1) (pa_cons (pe_glob (v := .ref c.broker) (by rfl) R.g_Broker rfl) pa_nil)))) pe_str pe_str))).run pins st _ Hn Dn I ⟨_, h1, .ref c.broker, .ref c.broker, true, rfl, fun u r => r, R.e_BadBounds.ki, _, rfl, iteT h2⟩
  · refine ⟨fun cls d H' => (cls = .ref c.no ∧ (∃ dd, d = some dd ∧ H' dd = some (.xd [(("tick" : PySem.Str), .int 0)])) ∧ ∀ t, H' t = none → Q (.ref t) (upd H' t (.tup [.str "NoDeal", .int 0]))) ∨ (cls = .ref c.bad ∧ d = none ∧ Q (.str "BadDeal") H') ∨ (cls = .ref c.bnd ∧ d = none ∧ Q (.str "BadBounds") H'), fun cls d σ' H' hh => ?_, rfl, hc, h⟩
    rcases hh with ⟨rfl, hd, k⟩ | ⟨rfl, rfl, k⟩ | ⟨rfl, rfl, k⟩
    · exact ⟨true, R.e_NoDeal.te, fun _ a na => ⟨rfl, hd, ⟨_, rfl⟩, k⟩, fun z => (nomatch z)⟩
    · exact ⟨false, R.x_bad_no, fun z => (nomatch z), fun _ => ⟨true, R.e_BadDeal.self, fun _ a na => ⟨rfl, rfl, ⟨_, rfl⟩, k⟩, fun z => (nomatch z)⟩⟩
    · exact ⟨false, R.x_bnd_no, fun z => (nomatch z), fun _ => ⟨false, R.x_bnd_bad, fun z => (nomatch z), fun _ => ⟨true, R.e_BadBounds.self, fun _ a na => ⟨rfl, rfl, ⟨_, rfl⟩, k⟩, fun z => (nomatch z)⟩⟩⟩
/-- _law_told(lambda: ..) -/
theorem lam_told {X : Cx} {g cc PP : Addr} {fd : FuncData} {k : Nat} {params : Arguments} {body : Expr} {scope : Scope} {t : XK → TE} {p lpos pos : Pos} (T : TxD X.mg) (R : TxE X.prog X.K X.mg c)
    (F : Fun X.K "_law_told" "_law_told" sToldL g fd) (A : At X.K X.mg "_law_told" g) (B : L2.Binds X.K fd ["deed"] []) (TB : TabB X.base X.mg cc PP) (hcode : X.env.code = .ref cc) (hr : Room (k + 2) X.A) (hg : Gl X "_law_told") (L : LamS X.env.scope scope)
    (hdef : defaultsOf params X.env = ([], [])) (hbind : ∀ (q : PySem.Str) (cl : List (PySem.Str × Addr)) (pm cv ctv : Value), bindArgs (PySem.W.kla_fn "<lambda>" q params body scope cl pm cv ctv) ⟨[], []⟩ = pure [])
    (hbody : ∀ (A : Around) (outer : List Env) (s : Shared) (H : Hp) (E : XK) (f c' : Addr), Room k (A.deeper (lamEnv X scope s.heap.objs.size f c')) → PE (lamCx X A outer s H E scope f c') body (t E)) :
    PE X (.Call (.Name "_law_told" p) [.Lambda params body scope lpos] [] pos) (tLam [(PP, X.env.qual ++ "<lambda>")] (TTtold c) t) := by
  obtain ⟨_, _, _, _, _, _, _, _, _, e, lk, code⟩ := F.ex
  subst e
  exact pe_lamcall hg A.g A.k lk code B scToldL rfl (.inl rfl) (told_gives rfl rfl rfl T R) TB hcode (List.mem_singleton.mpr rfl) (fun q hq _ => by rw [List.mem_singleton.mp hq]) hr L hdef hbind hbody
theorem passLam {X : Cx} {A : Around} {outer : List Env} {s : Shared} {H : Hp} {E : XK} {scope : Scope} {f c' : Addr} : Passes (L2.CX X.prog X.w) (lamCx X A outer s H E scope f c') E := passes_call (X := lamCx X A outer s H E scope f c') (takes_of rfl rfl rfl rfl) fun _ _ _ _ h => h
end
end KD
end
section
/-! A letter nine times. -/
namespace L2
open PySem PySem.Spec PyProof.Rows
def nine (z : PySem.Str) : PySem.Str := ⟨(List.replicate 9 z.cps).foldl (· ++ ·) #[]⟩
def rNine : R2 := fun x y H Q => ∃ z : PySem.Str, x = .str z ∧ y = .int 9 ∧ z.length = 1 ∧ (nine z).length ≤ sizeLine ∧ Q (.str (nine z)) H
theorem op_nine {X : Cx} : OpR X (binaryOp .Mult) rNine := by
  intro pins s σ H x y v u Q I rx ry h
  obtain ⟨z, rfl, rfl, one, small, q⟩ := h
  obtain ⟨t, rfl⟩ := rx
  obtain ⟨t', rfl⟩ := ry
  refine P.mul_str (by decide) (fun _ _ => ?_) (fun _ _ => ?_) ?_
  · rw [one]; decide
  · rw [one]; decide
  · rw [if_neg (by decide), if_neg (by rw [one]; decide)]
    exact ⟨small, .str (nine z), H, I.tok _, ⟨_, rfl⟩, q⟩
end L2
end
section
/-! The law's refusals. -/
namespace KD
open PySem PySem.Spec PyProof.Rows L2 LamX
/-- a def whose code object is known -/
structure FunC (K : PySem.W.Frag) (x qual : PySem.Str) (st : Stmt) (f : Addr) (fd : FuncData) (cc : Addr) : Prop where
  ex : ∃ (oc : Value) (od : Option Addr) (kV doc pm : Value) (an : Option Addr) (ct : Value) (osl : Array (Option Value)),
    fd = PySem.W.fnOf x qual (defArgs st) (defBody st) (defScope st) .none kV doc pm an (.ref cc) ct ∧ K.lookup f = some ⟨oc, od, .func fd, osl⟩ ∧ PySem.W.codeIn K (.ref cc) qual = true
theorem FunC.ok {P : Program} {w : World} {K : PySem.W.Frag} {mg : PySem.Str → Option Value} {base : Heap} {x qual : PySem.Str} {st : Stmt} {f cc : Addr} {fd : FuncData} {N ps : List PySem.Str} {k : Nat} {sp : Sp} (F : FunC K x qual st f fd cc) (S : FnScope N ps (defScope st)) (len : ∀ vs H Q E, sp vs H Q E → vs.length = ps.length)
    (hbody : ∀ (A : Around) (outer : List Env) (s : Shared) (H : Hp) (vs : List V) (Q : VK) (E : XK), Room k (A.deeper (envOfC qual (defScope st) s.heap.objs.size f (.ref cc))) → sp vs H Q E →
      ∃ t, PSs (cxOf CX0 P w K mg base N qual (defScope st) f (.ref cc) A outer s H E).nox (defBody st) t ∧ t { nx := fun _ H' => Q .non H', rt := Q } (L2.start N vs) H) : FnOk P w K mg base CX0 (k + 1) f fd ps sp := by
  obtain ⟨_, _, _, _, _, _, _, _, e, lk, code⟩ := F.ex
  subst e
  exact fn_of lk code S len fun A outer s H vs Q E room told => let ⟨t, h, q⟩ := hbody A outer s H vs Q E room told; ⟨t, h.nox, q⟩
theorem Tabs.off {T : List (Addr × PySem.Str)} {H H' : Hp} {d a : Addr} (D : DrawAt H d a) (t : Tabs T H) (o : Off d H H') : Tabs T H' := fun p hp => by
  obtain ⟨k, hd⟩ := D
  obtain ⟨ps, h1, h2, h3⟩ := t p hp
  refine ⟨ps, o _ _ h1 (fun e => by rw [e, hd] at h1; cases h1), h2, fun pos cv hc => ?_⟩
  obtain ⟨c, e1, e2⟩ := h3 pos cv hc
  exact ⟨c, e1, o _ _ e2 fun e => by rw [e, hd] at e2; unfold CodeO at e2; cases e2⟩
/-- all stands but what is drawn, and tables -/
structure Kp (d a : Addr) (H H' : Hp) : Prop where
  keep : ∀ b o, H b = some o → b ≠ d → (∀ ps, o ≠ .tbl ps) → H' b = some o
  d0 : DrawAt H d a
  d1 : DrawAt H' d a
theorem Kp.off {d a : Addr} {H H' : Hp} (D : DrawAt H d a) (D' : DrawAt H' d a) (o : Off d H H') : Kp d a H H' := ⟨fun b u z n _ => o b u z n, D, D'⟩
theorem Kp.ext {d a : Addr} {H H' : Hp} (D : DrawAt H d a) (e : ExtN H H') : Kp d a H H' := ⟨fun b u z _ n => e b u z n, D, let ⟨k, h⟩ := D; ⟨k, e _ _ h fun _ z => nomatch z⟩⟩
theorem Kp.trans {d a : Addr} {H H1 H2 : Hp} (x : Kp d a H H1) (y : Kp d a H1 H2) : Kp d a H H2 := ⟨fun b u z n m => y.keep b u (x.keep b u z n m) n m, x.d0, y.d1⟩
theorem Kp.refl {d a : Addr} {H : Hp} (D : DrawAt H d a) : Kp d a H H := ⟨fun _ _ z _ _ => z, D, D⟩
section
variable {K : PySem.W.Frag} {d a : Addr} {H H' : Hp}
theorem Kp.pl {v : V} {ty : String} (k : Kp d a H H') (h : Pl K H v ty) : Pl K H' v ty := by
  cases h with
  | non => exact .non
  | bl b => exact .bl b
  | int i => exact .int i
  | str h => exact .str h
  | @lst c xs h =>
    by_cases q : c = d
    · obtain ⟨n, z⟩ := k.d1
      rw [q]; exact .lst z
    · exact .lst (k.keep _ _ h q fun _ z => nomatch z)
  | @tup c xs h => exact .tup (k.keep _ _ h (fun q => by obtain ⟨n, z⟩ := k.d0; rw [q, z] at h; cases h) fun _ z => nomatch z)
  | @dK c xs h => exact .dK (k.keep _ _ h (fun q => by obtain ⟨n, z⟩ := k.d0; rw [q, z] at h; cases h) fun _ z => nomatch z)
theorem Kp.range {v : V} {b : Bool} (k : Kp d a H H') (h : RangeIs K H v b) : RangeIs K H' v b := by
  have nt : ∀ c xs, H c = some (.tup xs) → H' c = some (.tup xs) := fun c xs h => k.keep _ _ h (fun q => by obtain ⟨n, z⟩ := k.d0; rw [q, z] at h; cases h) fun _ z => nomatch z
  cases h with
  | no h n m => exact .no (k.pl h) n m
  | few h n => exact .few (nt _ _ h) n
  | two h hx hy => exact .two (nt _ _ h) hx hy
theorem Kp.dict {c : Addr} {kvs : List (Key × V)} (k : Kp d a H H') (h : H c = some (.dK kvs)) : H' c = some (.dK kvs) := k.keep _ _ h (fun q => by obtain ⟨n, z⟩ := k.d0; rw [q, z] at h; cases h) fun _ z => nomatch z
theorem Kp.deal {v : V} {b : Bool} (k : Kp d a H H') (h : DealIs K H v b) : DealIs K H' v b := by
  cases h with
  | no h n => exact .no (k.pl h) n
  | dict h hk hv => exact .dict (k.dict h) (fun kv m => let ⟨ty, q⟩ := hk kv m; ⟨ty, k.pl q⟩) fun kv m => let ⟨ty, q⟩ := hv kv m; ⟨ty, k.pl q⟩
theorem Kp.bnds {v : V} {b : Bool} (k : Kp d a H H') (h : BoundsIs K H v b) : BoundsIs K H' v b := by
  cases h with
  | no h n => exact .no (k.pl h) n
  | dict h hk g hr => exact .dict (k.dict h) (fun kv m => let ⟨ty, q⟩ := hk kv m; ⟨ty, k.pl q⟩) g fun kv m => k.range (hr kv m)
theorem Kp.sound {p bp : Addr} {ds : List (PySem.Str × PySem.Str)} {bs : List PySem.Str} {lo hi : PySem.Str → Int} (k : Kp d a H H') (h : Sound H p bp ds bs lo hi) : Sound H' p bp ds bs lo hi := by
  obtain ⟨bk, h1, h2, h3⟩ := h.bds.at_
  refine ⟨⟨k.dict h.deal.at_, h.deal.once, h.deal.few⟩, ⟨⟨bk, k.dict h1, h2, fun r => (h3 r).same fun c o z u => ?_⟩, h.bds.once, h.bds.few, h.bds.ok⟩, h.ne, h.some_, h.wd, h.wb⟩
  obtain ⟨xs, rfl⟩ := u
  exact k.keep _ _ z (fun q => by obtain ⟨n, y⟩ := k.d0; rw [q, y] at z; cases z) fun _ y => nomatch y
theorem Kp.script {ns : List Int} (k : Kp d a H H') (h : SqL K H a (ns.map V.int)) : SqL K H' a (ns.map V.int) := by
  rcases h with (h | ⟨ob, h⟩) | h
  · exact .inl (.inl (k.keep _ _ h (draw_ne k.d0 h) fun _ z => nomatch z))
  · exact .inl (.inr ⟨ob, k.keep _ _ h (fun e => by obtain ⟨n, z⟩ := k.d0; rw [e, z] at h; cases h) fun _ z => nomatch z⟩)
  · exact .inr h
end
/-! ### what is built -/
def Makes (te : TE) (R : Hp → V → Prop) : Prop := ∀ σ H (Q : VK), (∀ H' v, Same H H' → R H' v → Q v H') → te σ H Q
theorem Makes.imp {te : TE} {R R' : Hp → V → Prop} (m : Makes te R) (h : ∀ H v, R H v → R' H v) : Makes te R' := fun σ H Q k => m σ H Q fun H' v e r => k H' v e (h _ _ r)
theorem mk_c {v : V} : Makes (tC v) (fun _ x => x = v) := fun σ H Q k => k H v (Same.refl H) rfl
theorem mk_neg {i : Int} : Makes (tUn (rU fun i => .int (-i)) (tC (.int i))) (fun _ x => x = .int (-i)) := fun σ H Q k => ⟨i, rfl, k H _ (Same.refl H) rfl⟩
theorem mk_nine {z : PySem.Str} (h1 : z.length = 1) (h2 : (nine z).length ≤ sizeLine) : Makes (tOp rNine (tC (.str z)) (tC (.int 9))) (fun _ x => x = .str (nine z)) := fun σ H Q k => ⟨z, rfl, rfl, h1, h2, k H _ (Same.refl H) rfl⟩
def MakesAll (t : TA) (Pd : Hp → V → Prop) (n : Nat) : Prop := ∀ σ H (Q : List V → Hp → Prop), (∀ H' vs, Same H H' → vs.length = n → (∀ v ∈ vs, Pd H' v) → Q vs H') → t σ H Q
theorem mk_nils {Pd : Hp → V → Prop} : MakesAll tNil Pd 0 := fun σ H Q k => k H [] (Same.refl H) rfl fun v h => by cases h
theorem mk_more {Pd : Hp → V → Prop} {te : TE} {t : TA} {n : Nat} (st : ∀ H H' v, Same H H' → Pd H v → Pd H' v) (m : Makes te Pd) (r : MakesAll t Pd n) : MakesAll (tCons te t) Pd (n + 1) := fun σ H Q k =>
  m σ H _ fun H1 v e1 p1 => r σ H1 _ fun H2 vs e2 l2 p2 => k H2 (v :: vs) (e1.trans e2) (by rw [List.length_cons, l2]) fun u hu => (List.mem_cons.mp hu).elim (fun e => e ▸ st _ _ _ e2 p1) (p2 u)
/-- a list or tuple of given values -/
def SeqOf (tl : Bool) (xs : List V) (H : Hp) (v : V) : Prop := ∃ a, v = .ref a ∧ H a = some (if tl then .tup xs else .lst xs)
theorem mk_lst0 : Makes (tLst tNil) (SeqOf false []) := fun σ H Q k => ⟨Nat.zero_le _, fun p hp => k _ _ (made hp) ⟨p, rfl, upd_same⟩⟩
theorem mk_lst2 {ta tb : TE} {x y : V} (ma : Makes ta fun _ v => v = x) (mb : Makes tb fun _ v => v = y) : Makes (tLst (tCons ta (tCons tb tNil))) (SeqOf false [x, y]) := fun σ H Q k => ma σ H _ fun H1 v e1 r1 => mb σ H1 _ fun H2 u e2 r2 => by
  subst r1 r2
  exact ⟨by show 2 ≤ sizeLine; decide, fun p hp => k _ _ ((e1.trans e2).trans (made hp)) ⟨p, rfl, upd_same⟩⟩
theorem mk_tup1 {ta : TE} {x : V} (ma : Makes ta fun _ v => v = x) : Makes (tTup (tCons ta tNil)) (SeqOf true [x]) := fun σ H Q k => ma σ H _ fun H1 v e1 r1 => by
  subst r1
  exact ⟨by show 1 ≤ sizeLine; decide, fun p hp => k _ _ (e1.trans (made hp)) ⟨p, rfl, upd_same⟩⟩
theorem mk_tup2 {ta tb : TE} {x y : V} (ma : Makes ta fun _ v => v = x) (mb : Makes tb fun _ v => v = y) : Makes (tTup (tCons ta (tCons tb tNil))) (SeqOf true [x, y]) := fun σ H Q k => ma σ H _ fun H1 v e1 r1 => mb σ H1 _ fun H2 u e2 r2 => by
  subst r1 r2
  exact ⟨by show 2 ≤ sizeLine; decide, fun p hp => k _ _ ((e1.trans e2).trans (made hp)) ⟨p, rfl, upd_same⟩⟩
/-- a dict of one entry -/
def OneOf (key : Key) (R : Hp → V → Prop) (H : Hp) (v : V) : Prop := ∃ a x, v = .ref a ∧ H a = some (.dK [(key, x)]) ∧ R H x
theorem mk_disp {key : Key} {te : TE} {R : Hp → V → Prop} (m : Makes te R) (st : ∀ H p o v, H p = some (.dK []) → R H v → R (upd H p o) v) : Makes (tDisp [(tC (kV key), te)]) (OneOf key R) := fun σ H Q k p hp =>
  m σ _ _ fun H2 v e r => ⟨e _ _ upd_same, [(key, v)], rfl, by simp, k _ _ (put_in ((made hp).trans e) hp) ⟨p, v, rfl, upd_same, st _ _ _ _ (e _ _ upd_same) r⟩⟩
theorem mk_new : Makes tDNewK (fun H v => ∃ a, v = .ref a ∧ H a = some (.dK [])) := fun σ H Q k p hp => k _ _ (made hp) ⟨p, rfl, upd_same⟩
theorem st_eq {u : V} : ∀ (H : Hp) (p : Addr) (o : HO) (v : V), H p = some (.dK []) → v = u → v = u := fun _ _ _ _ _ h => h
theorem st_seq {tl : Bool} {xs : List V} : ∀ (H : Hp) (p : Addr) (o : HO) (v : V), H p = some (.dK []) → SeqOf tl xs H v → SeqOf tl xs (upd H p o) v := fun H p o v hp ⟨a, e, h⟩ => ⟨a, e, by rw [upd_ne fun q => by rw [q, hp] at h; cases tl <;> cases h]; exact h⟩
theorem deal_one {K : PySem.W.Frag} {H : Hp} {a : Addr} {key : Key} {x : V} (h : H a = some (.dK [(key, x)])) (hk : PlV K H (kV key)) (hx : PlV K H x) (e : (wordB (kV key) && wordB x) = false) : DealIs K H (.ref a) false := by
  have q := DealIs.dict (K := K) h (fun kv m => by rw [List.mem_singleton.mp m]; exact hk) (fun kv m => by rw [List.mem_singleton.mp m]; exact hx)
  rw [show (decide ([(key, x)].length ≤ 60) && (([(key, x)].all fun kv => wordB (kV kv.1)) && [(key, x)].all fun kv => wordB kv.2)) = false from by
    rw [List.all_cons, List.all_cons, List.all_nil, List.all_nil, Bool.and_true, Bool.and_true, e, Bool.and_false]] at q
  exact q
theorem bnd_one {K : PySem.W.Frag} {H : Hp} {a : Addr} {key : Key} {x : V} {b : Bool} (h : H a = some (.dK [(key, x)])) (hk : PlV K H (kV key)) (hx : RangeIs K H x b) (e : (wordB (kV key) && b) = false) : BoundsIs K H (.ref a) false := by
  have q := BoundsIs.dict (K := K) h (fun kv m => by rw [List.mem_singleton.mp m]; exact hk) (fun _ => b) (fun kv m => by rw [List.mem_singleton.mp m]; exact hx)
  rw [show ((decide (1 ≤ [(key, x)].length) && (decide ([(key, x)].length ≤ 12) && [(key, x)].all fun kv => wordB (kV kv.1))) && [(key, x)].all fun _ => b) = false from by
    rw [List.all_cons, List.all_cons, List.all_nil, List.all_nil, Bool.and_true, Bool.and_true, show decide (1 ≤ [(key, x)].length) = true from rfl, show decide ([(key, x)].length ≤ 12) = true from rfl, Bool.true_and, Bool.true_and, e]] at q
  exact q
theorem key_pl {K : PySem.W.Frag} {H : Hp} {x : PySem.Str} (h : x.length ≤ sizeLine) : PlV K H (kV (.inr x)) := ⟨_, .str h⟩
theorem short_str {x : PySem.Str} (h : x.length ≤ 100) : x.length ≤ sizeLine := by rw [sizeLine_eq]; omega
theorem deals6 {K : PySem.W.Frag} : MakesAll (tCons (tC V.non) (tCons (tLst tNil) (tCons (tDisp [(tC (V.str (Str.ofString "a")), tC V.non)]) (tCons (tDisp [(tC (V.str (Str.ofString "A")), tC (V.str (Str.ofString "x")))])
    (tCons (tDisp [(tC (V.str (Str.ofString "a")), tOp rNine (tC (V.str (Str.ofString "x"))) (tC (V.int 9)))]) (tCons (tDisp [(tC (V.int 1), tC (V.str (Str.ofString "x")))]) tNil)))))) (fun H v => DealIs K H v false) 6 := by
  have st : ∀ (H H' : Hp) (v : V), Same H H' → DealIs K H v false → DealIs K H' v false := fun _ _ _ e h => h.same e
  have sa : (Str.ofString "a").length ≤ sizeLine := short_str (by decide)
  have sA : (Str.ofString "A").length ≤ sizeLine := short_str (by decide)
  have sx : (Str.ofString "x").length ≤ sizeLine := short_str (by decide)
  have s9 : (nine (Str.ofString "x")).length ≤ sizeLine := short_str (by decide +kernel)
  refine mk_more st (mk_c.imp fun H v e => e ▸ .no .non (by decide)) ?_
  refine mk_more st (mk_lst0.imp fun H v ⟨a, e, h⟩ => e ▸ .no (.lst h) (by decide)) ?_
  refine mk_more st ((mk_disp (key := .inr (Str.ofString "a")) mk_c st_eq).imp fun H v ⟨a, x, e, h, ex⟩ => by subst e ex; exact deal_one h (key_pl sa) ⟨_, .non⟩ (by decide +kernel)) ?_
  refine mk_more st ((mk_disp (key := .inr (Str.ofString "A")) mk_c st_eq).imp fun H v ⟨a, x, e, h, ex⟩ => by subst e ex; exact deal_one h (key_pl sA) ⟨_, .str sx⟩ (by decide +kernel)) ?_
  refine mk_more st ((mk_disp (key := .inr (Str.ofString "a")) (mk_nine (by decide) s9) st_eq).imp fun H v ⟨a, x, e, h, ex⟩ => by subst e ex; exact deal_one h (key_pl sa) ⟨_, .str s9⟩ (by decide +kernel)) ?_
  exact mk_more st ((mk_disp (key := .inl 1) mk_c st_eq).imp fun H v ⟨a, x, e, h, ex⟩ => by subst e ex; exact deal_one h ⟨_, .int 1⟩ ⟨_, .str sx⟩ (by decide +kernel)) mk_nils
theorem bnds9 {K : PySem.W.Frag} : MakesAll (tCons (tC V.non) (tCons tDNewK (tCons (tDisp [(tC (V.str (Str.ofString "x")), tTup (tCons (tC (V.int 1)) tNil))]) (tCons (tDisp [(tC (V.str (Str.ofString "x")), tLst (tCons (tC (V.int 0)) (tCons (tC (V.int 1)) tNil)))])
    (tCons (tDisp [(tC (V.str (Str.ofString "x")), tTup (tCons (tC (V.int 2)) (tCons (tC (V.int 1)) tNil)))]) (tCons (tDisp [(tC (V.str (Str.ofString "x")), tTup (tCons (tC (V.int 0)) (tCons (tC (V.int 61)) tNil)))])
    (tCons (tDisp [(tC (V.str (Str.ofString "x")), tTup (tCons (tUn (rU fun i => V.int (-i)) (tC (V.int 1))) (tCons (tC (V.int 1)) tNil)))]) (tCons (tDisp [(tC (V.str (Str.ofString "x")), tTup (tCons (tC (V.int 0)) (tCons (tC (V.bl true)) tNil)))])
    (tCons (tDisp [(tC (V.str (Str.ofString "X")), tTup (tCons (tC (V.int 0)) (tCons (tC (V.int 1)) tNil)))]) tNil))))))))) (fun H v => BoundsIs K H v false) 9 := by
  have st : ∀ (H H' : Hp) (v : V), Same H H' → BoundsIs K H v false → BoundsIs K H' v false := fun _ _ _ e h => h.same e
  have sx : (Str.ofString "x").length ≤ sizeLine := short_str (by decide)
  have sX : (Str.ofString "X").length ≤ sizeLine := short_str (by decide)
  refine mk_more st (mk_c.imp fun H v e => e ▸ .no .non (by decide)) ?_
  refine mk_more st (mk_new.imp fun H v ⟨a, e, h⟩ => by subst e; exact BoundsIs.dict h (fun kv m => by cases m) (fun _ => true) (fun kv m => by cases m)) ?_
  refine mk_more st ((mk_disp (key := .inr (Str.ofString "x")) (mk_tup1 mk_c) st_seq).imp fun H v ⟨a, x, e, h, b, ex, hb⟩ => by subst e ex; exact bnd_one h (key_pl sx) (.few hb (by decide)) (by rw [Bool.and_false])) ?_
  refine mk_more st ((mk_disp (key := .inr (Str.ofString "x")) (mk_lst2 mk_c mk_c) st_seq).imp fun H v ⟨a, x, e, h, b, ex, hb⟩ => by subst e ex; exact bnd_one h (key_pl sx) (.no (.lst hb) (by decide) (by decide)) (by rw [Bool.and_false])) ?_
  refine mk_more st ((mk_disp (key := .inr (Str.ofString "x")) (mk_tup2 mk_c mk_c) st_seq).imp fun H v ⟨a, x, e, h, b, ex, hb⟩ => by subst e ex; exact bnd_one h (key_pl sx) (.two hb (.inl ⟨_, rfl⟩) (.inl ⟨_, rfl⟩)) (by decide +kernel)) ?_
  refine mk_more st ((mk_disp (key := .inr (Str.ofString "x")) (mk_tup2 mk_c mk_c) st_seq).imp fun H v ⟨a, x, e, h, b, ex, hb⟩ => by subst e ex; exact bnd_one h (key_pl sx) (.two hb (.inl ⟨_, rfl⟩) (.inl ⟨_, rfl⟩)) (by decide +kernel)) ?_
  refine mk_more st ((mk_disp (key := .inr (Str.ofString "x")) (mk_tup2 mk_neg mk_c) st_seq).imp fun H v ⟨a, x, e, h, b, ex, hb⟩ => by subst e ex; exact bnd_one h (key_pl sx) (.two hb (.inl ⟨_, rfl⟩) (.inl ⟨_, rfl⟩)) (by decide +kernel)) ?_
  refine mk_more st ((mk_disp (key := .inr (Str.ofString "x")) (mk_tup2 mk_c mk_c) st_seq).imp fun H v ⟨a, x, e, h, b, ex, hb⟩ => by subst e ex; exact bnd_one h (key_pl sx) (.two hb (.inl ⟨_, rfl⟩) (.inr ⟨_, rfl⟩)) (by decide +kernel)) ?_
  exact mk_more st ((mk_disp (key := .inr (Str.ofString "X")) (mk_tup2 mk_c mk_c) st_seq).imp fun H v ⟨a, x, e, h, b, ex, hb⟩ => by subst e ex; exact bnd_one h (key_pl sX) (.two hb (.inl ⟨_, rfl⟩) (.inl ⟨_, rfl⟩)) (by decide +kernel)) mk_nils
theorem for_made {K : PySem.W.Frag} {t : TA} {Pd : Hp → V → Prop} {n : Nat} {g : TG} {tb : TS} {D : Ends} {σ : L2.St} {H : Hp} (ms : MakesAll t Pd n) (small : n ≤ sizeLine) (st : ∀ H H' v, Same H H' → Pd H v → Pd H' v)
    (k : ∀ H' vs TT, Same H H' → (∀ v ∈ vs, Pd H' v) → H' TT = some (.tup vs) → tFor (fun σ H R => R (Itt K TT) H) g tb D σ H') : tFor (iTup K (tTup t)) g tb D σ H :=
  ms σ H _ fun H2 vs e2 len items => ⟨by rw [len]; exact small, fun TT nT => ⟨TT, rfl, ⟨_, SqT.of upd_same⟩, k _ vs TT (e2.trans (made nT)) (fun v hv => st _ _ _ (made nT) (items v hv)) upd_same⟩⟩
abbrev sRefdD : Stmt := top 41
abbrev nRefdD : List PySem.Str := ["draw", "deal", "bounds", "wrong"]
theorem scRefdD : FnScope nRefdD ["draw", "deal", "bounds"] (defScope sRefdD) := ⟨rfl, rfl, rfl, by decide +kernel, rfl, by decide +kernel, by decide +kernel⟩
def lamQ : PySem.Str := (envOfC "_law_refused" (defScope sRefdD) 0 0 .none).qual ++ "<lambda>"
def spRefdD (K : PySem.W.Frag) (PP : Addr) : Sp := fun vs H Q _ => ∃ (d a p bp : Addr) (ns : List Int) (ds : List (PySem.Str × PySem.Str)) (bs : List PySem.Str) (lo hi : PySem.Str → Int), vs = [.ref d, .ref p, .ref bp] ∧ DrawAt H d a ∧ SqL K H a (ns.map V.int) ∧ ns.length ≤ 63 ∧ Sound H p bp ds bs lo hi ∧ Tabs [(PP, lamQ)] H ∧ ∀ H', Q (.bl true) H'
section
variable {P : Program} {w : World} {K : PySem.W.Frag} {mg : PySem.Str → Option Value} {base : Heap} {c : Cs}
theorem ok_refdD {f g cc PP fP fL : Addr} {fd fdg fdP fdL : FuncData} (F : FunC K "_law_refused" "_law_refused" sRefdD f fd cc) (T : TxD mg) (R : TxE P K mg c) (TB : TabB base mg cc PP)
    (F_law_told : Fun K "_law_told" "_law_told" sToldL g fdg) (A_law_told : At K mg "_law_told" g) (b_law_told : L2.Binds K fdg ["deed"] [])
    (A_law_pick : At K mg "_law_pick" fP) (G_law_pick : FnOk P w K mg base CX0 3 fP fdP ["draw", "items"] (spPick K)) (b_law_pick : L2.Binds K fdP ["draw", "items"] [])
    (A_least_moves : At K mg "least_moves" fL) (G_least_moves : FnOk P w K mg base (L2.CX P w) 6 fL fdL ["deal", "bounds"] (spLeast K c)) (b_least_moves : L2.Binds K fdL ["deal", "bounds"] []) :
    FnOk P w K mg base CX0 10 f fd ["draw", "deal", "bounds"] (spRefdD K PP) := by
  refine F.ok scRefdD (fun vs H Q E h => ?_) (fun A outer s H vs Q E hr h => ?_)
  · obtain ⟨d, a, p, bp, ns, ds, bs, lo, hi, rfl, _⟩ := h
    rfl
  · obtain ⟨d, a, p, bp, ns, ds, bs, lo, hi, rfl, D, hS, few, so, tabs, k⟩ := h
    have nd := scRefdD.nd
    have hcode : (cxOf CX0 P w K mg base nRefdD "_law_refused" (defScope sRefdD) f (.ref cc) A outer s H E).nox.env.code = .ref cc := rfl
    have hr_lam : Room (7 + 2) _ := hr
    refine ⟨_, (pss_cons (ps_for PassesOwn.never rfl (pi_tup (pe_tup (pa_cons pe_non (pa_cons (pe_lst pa_nil) (pa_cons (pe_disp (pps_cons pe_str pe_non pps_nil) (by rfl) (by rfl) (fun z => by cases z) (by decide)) (pa_cons (pe_disp (pps_cons pe_str pe_str pps_nil) (by rfl) (by rfl) (fun z => by cases z) (by decide)) (pa_cons (pe_disp (pps_cons pe_str (pe_op op_nine pe_str pe_int) pps_nil) (by rfl) (by rfl) (fun z => by cases z) (by decide)) (pa_cons (pe_disp (pps_cons pe_int pe_str pps_nil) (by rfl) (by rfl) (fun z => by cases z) (by decide)) pa_nil)))))))) (pg_name (i := 3) nd rfl (Or.inr rfl))
        (pss_one (ps_if (pt_cmpR op_ne (lam_told T R F_law_told A_law_told b_law_told TB hcode hr_lam (by rfl) (lamS_by (sc := defScope sRefdD) (by decide +kernel)) (by rfl) (fun _ _ _ _ _ => rfl) (fun A outer s H E f c2 hrl => pe_call G_least_moves (hrl.mono (by decide)) (by rfl) A_least_moves.g A_least_moves.k b_least_moves .nil passLam (pa_cons (pv 3) (pa_cons (pe_call G_law_pick (hrl.mono (by decide)) (by rfl) A_law_pick.g A_law_pick.k b_law_pick .nil pass0 (pa_cons (pv 0) (pa_cons (pe_lst (pa_cons (pv 2) (pa_cons pe_non pa_nil))) pa_nil))) pa_nil)))) pe_str (nomark _))
          (pss_one (ps_ret pe_bl))
          pss_nil)))
      (pss_cons (ps_for PassesOwn.never rfl (pi_tup (pe_tup (pa_cons pe_non (pa_cons pe_dnewK (pa_cons (pe_disp (pps_cons pe_str (pe_tup (pa_cons pe_int pa_nil)) pps_nil) (by rfl) (by rfl) (fun z => by cases z) (by decide)) (pa_cons (pe_disp (pps_cons pe_str (pe_lst (pa_cons pe_int (pa_cons pe_int pa_nil))) pps_nil) (by rfl) (by rfl) (fun z => by cases z) (by decide)) (pa_cons (pe_disp (pps_cons pe_str (pe_tup (pa_cons pe_int (pa_cons pe_int pa_nil))) pps_nil) (by rfl) (by rfl) (fun z => by cases z) (by decide)) (pa_cons (pe_disp (pps_cons pe_str (pe_tup (pa_cons pe_int (pa_cons pe_int pa_nil))) pps_nil) (by rfl) (by rfl) (fun z => by cases z) (by decide)) (pa_cons (pe_disp (pps_cons pe_str (pe_tup (pa_cons (pe_un un_neg pe_int) (pa_cons pe_int pa_nil))) pps_nil) (by rfl) (by rfl) (fun z => by cases z) (by decide)) (pa_cons (pe_disp (pps_cons pe_str (pe_tup (pa_cons pe_int (pa_cons pe_bl pa_nil))) pps_nil) (by rfl) (by rfl) (fun z => by cases z) (by decide)) (pa_cons (pe_disp (pps_cons pe_str (pe_tup (pa_cons pe_int (pa_cons pe_int pa_nil))) pps_nil) (by rfl) (by rfl) (fun z => by cases z) (by decide)) pa_nil))))))))))) (pg_name (i := 3) nd rfl (Or.inr rfl))
        (pss_one (ps_if (pt_cmpR op_ne (lam_told T R F_law_told A_law_told b_law_told TB hcode hr_lam (by rfl) (lamS_by (sc := defScope sRefdD) (by decide +kernel)) (by rfl) (fun _ _ _ _ _ => rfl) (fun A outer s H E f c2 hrl => pe_call G_least_moves (hrl.mono (by decide)) (by rfl) A_least_moves.g A_least_moves.k b_least_moves .nil passLam (pa_cons (pv 1) (pa_cons (pv 3) pa_nil)))) pe_str (nomark _))
          (pss_one (ps_ret pe_bl))
          pss_nil)))
      (pss_one (ps_ret pe_bl)))), ?_⟩
    have tup_k : ∀ {d a : Addr} {H H' : Hp} {c : Addr} {xs : List V}, Kp d a H H' → H c = some (.tup xs) → H' c = some (.tup xs) := fun {d a H H' c xs} k h => k.keep _ _ h (fun q => by obtain ⟨n, z⟩ := k.d0; rw [q, z] at h; cases h) fun _ z => nomatch z
    refine into (for_made (K := K) (deals6 (K := K)) (by decide) (fun _ _ _ e h => h.same e) fun H1 vs TT e1 items hT => ?_)
    have tabs1 := tabs.ext e1
    have K1 : Kp d a H H1 := .ext D (.of e1)
    refine for_tup (xs := vs) (fun i σ H' => Kp d a H1 H' ∧ Tabs [(PP, lamQ)] H' ∧ ∃ y : Option V, σ = [some (.ref d), some (.ref p), some (.ref bp), y]) ⟨.refl K1.d1, tabs1, none, rfl⟩ (fun i σ H' _ h => SqT.of (tup_k h.1 hT)) ?_ ?_
    · rintro i v σ H2 hv ⟨k2, t2, y, rfl⟩
      refine ⟨t2, fun H3 e3 t3 => ?_⟩
      have k3 : Kp d a H1 H3 := k2.trans (.ext k2.d1 e3)
      have bad := k3.deal (items v (List.mem_of_getElem? hv))
      refine ⟨_, rfl, _, rfl, _, rfl, by show 2 ≤ sizeLine; decide, fun l nl => ?_⟩
      have e4 : Same H3 (upd H3 l (.lst [.ref bp, .non])) := made nl
      have k4 : Kp d a H1 (upd H3 l (.lst [.ref bp, .non])) := k3.trans (.ext k3.d1 (.of e4))
      have ld : l ≠ d := fun q => by obtain ⟨n, z⟩ := k3.d1; rw [q, z] at nl; cases nl
      have t4 := t3.ext e4
      have hl : (upd H3 l (.lst [.ref bp, .non])) l = some (.lst [.ref bp, .non]) := upd_same
      have bad4 := bad.same e4
      generalize upd H3 l (.lst [.ref bp, .non]) = H4 at k4 t4 hl bad4
      refine ⟨d, a, l, ns, _, rfl, k4.d1, (K1.trans k4).script hS, few, ld, hl, by simp, fun H5 x o5 D5 hx => ?_⟩
      have k5 : Kp d a H1 H5 := k4.trans (.off k4.d1 D5 o5)
      refine ⟨v, x, rfl, .inl ⟨(Kp.off k4.d1 D5 o5).deal bad4, fun H6 e6 => .inr (.inl ⟨rfl, rfl, rfl, _, rfl, iteF' (by simp) ⟨k5.trans (.ext k5.d1 (.of e6)), (Tabs.off k4.d1 t4 o5).ext e6, some v, rfl⟩⟩)⟩⟩
    · rintro σ H2 ⟨k2, t2, y, rfl⟩
      have K2 := K1.trans k2
      have so2 := K2.sound so
      have hd2 := so2.isDeal (K := K)
      refine into (for_made (K := K) (bnds9 (K := K)) (by decide) (fun _ _ _ e h => h.same e) fun H3 vs2 TT2 e3 items2 hT2 => ?_)
      have t3 := t2.ext e3
      have D3 : DrawAt H3 d a := K2.d1.same e3
      have hd3 := hd2.same e3
      refine for_tup (xs := vs2) (fun i σ H' => Kp d a H3 H' ∧ Tabs [(PP, lamQ)] H' ∧ ∃ y : Option V, σ = [some (.ref d), some (.ref p), some (.ref bp), y]) ⟨.refl D3, t3, y, rfl⟩ (fun i σ H' _ h => SqT.of (tup_k h.1 hT2)) ?_ ?_
      · rintro i v σ H4 hv ⟨k4, t4, y, rfl⟩
        refine ⟨t4, fun H5 e5 t5 => ?_⟩
        have k5 : Kp d a H3 H5 := k4.trans (.ext k4.d1 e5)
        exact ⟨_, rfl, _, rfl, _, v, rfl, .inr (.inl ⟨k5.deal hd3, k5.bnds (items2 v (List.mem_of_getElem? hv)), fun H6 e6 => .inr (.inr ⟨rfl, rfl, rfl, _, rfl, iteF' (by simp) ⟨k5.trans (.ext k5.d1 (.of e6)), t5.ext e6, some v, rfl⟩⟩)⟩)⟩
      · rintro σ H4 ⟨k4, t4, y, rfl⟩
        exact k H4
end
end KD
end
section
/-! The mathematics of the law: what its names see. -/
namespace KD
open PySem L2 DM
theorem sumF_congr {σ : Type} {f g : σ → Int} {ns : List σ} (h : ∀ n ∈ ns, f n = g n) : sumF f ns = sumF g ns := by
  rw [← sum_map f, ← sum_map g, List.map_congr_left h]
theorem look_put {b : List (Str × Str)} {l g m : Str} (ne : m ≠ l) : look (putL b m g) l = look b l := by
  unfold look putL
  induction b with
  | nil => rfl
  | cons d b ih =>
    rw [List.map_cons, List.find?_cons, List.find?_cons]
    by_cases q : d.1 = m
    · rw [if_pos q]
      have : decide (d.1 = l) = false := decide_eq_false fun z => ne (q.symm.trans z)
      rw [this]; exact ih
    · rw [if_neg q]
      cases decide (d.1 = l) with
      | true => rfl
      | false => exact ih
theorem look_putS {b : List (Str × Str)} {l g r : Str} (h : look b l = some r) : look (putL b l g) l = some g := by
  unfold look putL at *
  induction b with
  | nil => cases h
  | cons d b ih =>
    rw [List.map_cons, List.find?_cons]
    rw [List.find?_cons] at h
    by_cases q : d.1 = l
    · rw [if_pos q, show decide ((d.1, g).1 = l) = true from decide_eq_true q]; rfl
    · rw [if_neg q, show decide (d.1 = l) = false from decide_eq_false q]
      rw [show decide (d.1 = l) = false from decide_eq_false q] at h
      exact ih h
/-- what has been moved stays -/
theorem once_stays {ds : List (Str × Str)} {l r g : Str} (hd : look ds l = some r) (ne : g ≠ r) : ∀ (ys : List (Str × Str × Str)) (b b' : List (Str × Str)), look b l = some g → once ds ys b = some b' → look b' l = some g
  | [], b, b', h, e => by cases e; exact h
  | y :: ys, b, b', h, e => by
    unfold once at e
    split at e
    · rename_i c
      have nl : y.1 ≠ l := fun q => by
        obtain ⟨c1, c2, _⟩ := c
        rw [q] at c1 c2
        rw [hd] at c1; rw [h] at c2
        exact ne (Option.some.inj (c2.trans c1.symm))
      exact once_stays hd ne ys _ _ (by rw [look_put nl]; exact h) e
    · cases e
theorem once_append (ds : List (Str × Str)) : ∀ (ys zs : List (Str × Str × Str)) (b : List (Str × Str)), once ds (ys ++ zs) b = (once ds ys b).bind (once ds zs)
  | [], zs, b => rfl
  | y :: ys, zs, b => by
    show (if _ then once ds (ys ++ zs) _ else none) = Option.bind (if _ then once ds ys _ else none) _
    split
    · exact once_append ds ys zs _
    · rfl
theorem once_twice {ds b : List (Str × Str)} {ys : List (Str × Str × Str)} (ne : ys ≠ []) (h : once ds ys ds = some b) : once ds (ys ++ ys.take 1) ds = none := by
  cases ys with
  | nil => exact absurd rfl ne
  | cons y ys =>
    rw [once_append, h]
    have h' := h
    unfold once at h'
    split at h'
    · rename_i c
      obtain ⟨c1, c2, c3⟩ := c
      have s := once_stays c1 c3 ys _ _ (look_putS c2) h'
      show once ds [y] b = none
      unfold once
      rw [if_neg fun z => c3 (Option.some.inj (s.symm.trans z.2.1))]
    · cases h'
/-- spoilt evidence does not show -/
theorem spoilt_no {ds : List (Str × Str)} {bs : List Str} {lo hi : Str → Int} {ys : List (Str × Str × Str)} {way : Str} {rs : List Str} (h : Shows ds bs lo hi ys way rs) : ∀ e ∈ spoilt ys rs, ¬ Shows ds bs lo hi e.1 way e.2 := by
  obtain ⟨b, h1, h2, h3, h4, h5, h6⟩ := h
  intro e he
  unfold spoilt at he
  rcases List.mem_append.mp he with he | he
  · split at he
    · cases he
    · rename_i ne
      rcases List.mem_cons.mp he with q | he
      · subst q
        rintro ⟨b', z, _⟩
        rw [once_twice ne h1] at z; cases z
      · rw [List.mem_singleton.mp he]
        rintro ⟨_, _, _, _, _, _, z⟩
        have p : 0 < ys.length := List.length_pos_iff.mpr ne
        have z' : sumF (needT (fun n => cnt n ds) lo hi way) rs = ((ys.drop 1).length : Nat) := z
        rw [h6, List.length_drop] at z'
        omega
  · split at he
    · cases he
    · rename_i ne
      rw [List.mem_singleton.mp he]
      rintro ⟨_, _, _, _, z, _⟩
      cases rs with
      | nil => exact ne rfl
      | cons r rs => exact (List.nodup_append.mp z).2.2 r List.mem_cons_self r (List.mem_cons_self) rfl
/-- all names of the law: the readers of the deal and of the bounds, perhaps more -/
structure Nms (ds : List (Str × Str)) (bs : List Str) (lo hi : Str → Int) (ns : List Str) : Prop where
  once : ns.Nodup
  all : ∀ n ∈ alls ds bs, n ∈ ns
  out : ∀ n, n ∉ alls ds bs → cnt n ds = 0 ∧ lo n = 0 ∧ hi n = 0
theorem Nms.of {H : Hp} {bp : Addr} {ds : List (Str × Str)} {bs ns : List Str} {lo hi : Str → Int} (h : Bds H bp bs lo hi) (d : ns.Nodup) (h1 : ∀ x ∈ ds, x.2 ∈ ns) (h2 : ∀ n ∈ bs, n ∈ ns) : Nms ds bs lo hi ns :=
  ⟨d, fun n hn => (mem_alls.mp hn).elim (fun z => let ⟨x, hx, e⟩ := (mem_rdrs _ _).mp z; e ▸ h1 x hx) (h2 n), fun n no => ⟨cnt_out fun z => no (mem_alls.mpr (.inl z)), outside h fun z => no (mem_alls.mpr (.inr z))⟩⟩
section
variable {ds b : List (Str × Str)} {bs ns : List Str} {lo hi f : Str → Int} {ys : List (Str × Str × Str)} {way : Str} {rs : List Str}
theorem Nms.sum (N : Nms ds bs lo hi ns) (db : bs.Nodup) {g : Str → Int} (h : ∀ n, n ∉ alls ds bs → g n = 0) : sumF g ns = sumF g (alls ds bs) :=
  sumF_same N.once (alls_nodup db) (fun n _ no => h n no) fun n hn no => absurd (N.all n hn) no
/-- the limits as the law writes them -/
def lims (lo hi : Str → Int) (ns : List Str) : List (Int × Int) := ns.map fun n => (lo n, hi n)
theorem rows_pos {ns : List Str} {lo hi : Str → Int} (h : ∀ n, 0 ≤ lo n) : ∀ l ∈ lims lo hi ns, 0 ≤ l.1 := fun l hl => by
  obtain ⟨n, _, rfl⟩ := List.mem_map.mp hl
  exact h n
theorem rows_of {ns : List Str} {lo hi : Str → Int} {m : Int} {r : List Int} (nn : ns.Nodup) (l0 : ∀ n, 0 ≤ lo n) : r ∈ rows (lims lo hi ns) m ↔ ∃ g : Str → Int, r = ns.map g ∧ (∀ n ∈ ns, lo n ≤ g n ∧ g n ≤ hi n) ∧ sumF g ns = m := by
  have lm : lims lo hi ns = (ns.map (Deal.rd ⟨fun _ => 0, lo, hi⟩)).map Rd.lim := by rw [List.map_map]; rfl
  rw [mem_rows _ _ _ (rows_pos l0), lm, ← in_inL]
  constructor
  · rintro ⟨i, s⟩
    obtain ⟨g, rfl⟩ := by_names ns r nn (by rw [in_len _ _ i, List.length_map])
    exact ⟨g, rfl, (in_map ⟨fun _ => 0, lo, hi⟩ g ns).mp i, by rw [← sum_map]; exact s⟩
  · rintro ⟨g, rfl, i, s⟩
    exact ⟨(in_map ⟨fun _ => 0, lo, hi⟩ g ns).mpr i, by rw [sum_map]; exact s⟩
/-- what a row costs -/
def costR (l : Str → Int) (ns : List Str) (r : List Int) : Int := cost (ns.map (Deal.rd ⟨l, fun _ => 0, fun _ => 0⟩)) r
theorem costR_map (l : Str → Int) (ns : List Str) (g : Str → Int) : costR l ns (ns.map g) = sumF (fun n => max 0 (l n - g n)) ns := cost_map ⟨l, fun _ => 0, fun _ => 0⟩ g ns
/-- there is a row just where there is room -/
theorem rows_room {H : Hp} {bp : Addr} (B : Bds H bp bs lo hi) (N : Nms ds bs lo hi ns) {m : Int} (h : rows (lims lo hi ns) m ≠ []) : RoomIs bs lo hi m := by
  have s1 : sumF lo ns = sumF lo bs := (N.sum B.once fun n no => (N.out n no).2.1).trans (sum_alls B ds).1
  have s2 : sumF hi ns = sumF hi bs := (N.sum B.once fun n no => (N.out n no).2.2).trans (sum_alls B ds).2
  refine Classical.byContradiction fun no => h ?_
  refine no_rows ⟨fun _ => 0, lo, hi⟩ (fun n _ => (B.ok n).1) fun z => no ?_
  unfold RoomIs
  rw [← s1, ← s2]; exact z
/-- the least cost of a row is what has been told -/
theorem least_row {H : Hp} {bp : Addr} (B : Bds H bp bs lo hi) (N : Nms ds bs lo hi ns) (T : Told ds bs lo hi ys way rs f b) :
    (ys.length : Int) ∈ (rows (lims lo hi ns) ds.length).map (costR (fun n => cnt n ds) ns) ∧ ∀ c ∈ (rows (lims lo hi ns) ds.length).map (costR (fun n => cnt n ds) ns), (ys.length : Int) ≤ c := by
  have l0 : ∀ n, 0 ≤ lo n := fun n => (B.ok n).1
  constructor
  · refine List.mem_map.mpr ⟨ns.map fun n => if n ∈ alls ds bs then f n else 0, (rows_of N.once l0).mpr ⟨_, rfl, fun n _ => ?_, ?_⟩, ?_⟩
    · split
      · rename_i h; exact T.within n h
      · rename_i h; have := N.out n h; omega
    · rw [N.sum B.once fun n no => if_neg no, ← T.sum_]
      exact sumF_congr fun n hn => if_pos hn
    · rw [costR_map, N.sum B.once fun n no => by rw [if_neg no, (N.out n no).1]; omega, T.many]
      exact sumF_congr fun n hn => by rw [if_pos hn]
  · intro c hc
    obtain ⟨r, hr, rfl⟩ := List.mem_map.mp hc
    obtain ⟨g, rfl, ig, sg⟩ := (rows_of N.once l0).mp hr
    -- g is zero outside
    have e1 : sumF g ns = sumF (fun n => if n ∈ alls ds bs then g n else 0) ns := sumF_congr fun n hn => by
      split
      · rfl
      · rename_i h
        have := ig n hn
        have := N.out n h
        omega
    have e2 : sumF (fun n => if n ∈ alls ds bs then g n else 0) ns = sumF g (alls ds bs) := (N.sum B.once fun n no => if_neg no).trans (sumF_congr fun n hn => if_pos hn)
    have le := T.best g (fun n hn => ig n (N.all n hn)) (by rw [← e2, ← e1, sg])
    rw [costR_map]
    have e3 : sumF (fun n => max 0 (cnt n ds - g n)) ns = sumF (fun n => if n ∈ alls ds bs then max 0 (cnt n ds - g n) else 0) ns := sumF_congr fun n hn => by
      split
      · rfl
      · rename_i h
        have := ig n hn
        have := N.out n h
        omega
    rw [e3, N.sum B.once fun n no => if_neg no]
    exact Int.le_trans le (Int.le_of_eq (sumF_congr fun n hn => (if_pos hn).symm))
/-- behind the moves all are within their limits -/
theorem after_in (N : Nms ds bs lo hi ns) (T : Told ds bs lo hi ys way rs f b) : (∀ n, lo n ≤ cnt n b ∧ cnt n b ≤ hi n) ∧ sumF (fun n => cnt n b) ns = ds.length := by
  constructor
  · intro n
    by_cases h : n ∈ alls b bs
    · exact T.inn n h
    · have e : cnt n b = 0 := cnt_out fun z => h (mem_alls.mpr (.inl z))
      have e2 : n ∉ bs := fun z => h (mem_alls.mpr (.inr z))
      by_cases h2 : n ∈ alls ds bs
      · have w := T.within n h2
        have := T.out n e2
        omega
      · have := N.out n h2
        omega
  · rw [sum_cnt N.once b fun x hx => N.all _ (T.goals x hx)]
    have := congrArg List.length (once_lanes ds ys ds b T.once_)
    rw [List.length_map, List.length_map] at this
    omega
/-- less evidence shows just if what it bars is all -/
theorem less_shows (N : Nms ds bs lo hi ns) (T : Told ds bs lo hi ys way rs f b) : Shows ds bs lo hi ys way (rs.drop 1) ↔ sumF (barF (fun n => cnt n ds) lo hi way (rs.drop 1)) ns = ys.length := by
  obtain ⟨b', h1, h2, h3, h4, h5, h6⟩ := T.shows
  have dn : (rs.drop 1).Nodup := h4.sublist (List.drop_sublist 1 rs)
  have sub : ∀ r ∈ rs.drop 1, r ∈ alls ds bs := fun r hr => h5 r (List.mem_of_mem_drop hr)
  have e : sumF (barF (fun n => cnt n ds) lo hi way (rs.drop 1)) ns = sumF (needT (fun n => cnt n ds) lo hi way) (rs.drop 1) := by
    refine (sumF_same (ms := rs.drop 1) N.once dn (fun n _ no => if_neg no) fun n hn no => absurd (N.all n (sub n hn)) no).trans ?_
    exact sumF_congr fun n hn => if_pos hn
  rw [e]
  exact ⟨fun ⟨_, _, _, _, _, _, z⟩ => z, fun z => ⟨b', h1, h2, h3, dn, sub, z⟩⟩
end
end KD
end
section
/-! The law: what is drawn. -/
namespace KD
open PySem PySem.Spec PyProof.Rows L2 LamX
open DM
def nms : List PySem.Str := ["x", "y", "w", "v", "u"]
def draws : List (List PySem.Str) := [["x"], ["x", "y"], ["x", "y", "w"]]
def bnds (rs : List PySem.Str) : List (List PySem.Str) := [rs, rs.take 1 ++ [Str.ofString "v"], rs ++ [Str.ofString "v"], [Str.ofString "v", Str.ofString "u"]]
theorem bnds_ok : ∀ rs ∈ draws, ∀ bs ∈ bnds rs, bs.Nodup ∧ 1 ≤ bs.length ∧ bs.length ≤ 4 ∧ ∀ n ∈ bs, n ∈ nms := by decide +kernel
theorem draws_ok : ∀ rs ∈ draws, rs.length ≤ 3 ∧ ∀ n ∈ rs, n ∈ nms := by decide +kernel
theorem nms_words : ∀ n ∈ nms, wordS n = true := by decide +kernel
theorem lanes_words : ∀ n ∈ lanes, wordS n = true := by decide +kernel
theorem nms_ok : ∀ n ∈ nms, okS n := by unfold okS; decide +kernel
theorem lanes_ok : ∀ n ∈ lanes, okS n := by unfold okS; decide +kernel
theorem draw_of {r : Int} (h0 : 0 ≤ r) (h3 : r < 3) : ∃ rs ∈ draws, cutV [V.str (Str.ofString "x"), V.str (Str.ofString "y"), V.str (Str.ofString "w")] none (some (1 + r)) = rs.map V.str := by
  have : r = 0 ∨ r = 1 ∨ r = 2 := by omega
  rcases this with rfl | rfl | rfl
  · exact ⟨_, .head _, rfl⟩
  · exact ⟨_, .tail _ (.head _), rfl⟩
  · exact ⟨_, .tail _ (.tail _ (.head _)), rfl⟩
theorem off_list {H H' : Hp} {d a p : Addr} {rs : List PySem.Str} (D : DrawAt H d a) (o : Off d H H') (h : H p = some (.lst (rs.map V.str))) : H' p = some (.lst (rs.map V.str)) := o _ _ h (strs_off D h)
abbrev sLaw : Stmt := top 44
abbrev nLaw : List PySem.Str := ["script", "draw", "readers", "many", "deal", "bounds", "names", "limits", "before", "costs", "found", "late", "after", "less", "lane", "reader", "goal", "row", "one", "load", "low", "high", "wrong"]
theorem scLaw : FnScope nLaw ["script"] (defScope sLaw) := ⟨rfl, rfl, rfl, by decide +kernel, rfl, by decide +kernel, by decide +kernel⟩
def lamL : PySem.Str := (envOfC "law" (defScope sLaw) 0 0 .none).qual ++ "<lambda>"
abbrev TT2 (PP PL : Addr) : List (Addr × PySem.Str) := [(PP, lamQ), (PL, lamL)]
/-- what the law has drawn -/
structure Bas (K : PySem.W.Frag) (H : Hp) (PP PL a DR RD p bp : Addr) (ns : List Int) (rs bs : List PySem.Str) (ds : List (PySem.Str × PySem.Str)) (lo hi : PySem.Str → Int) : Prop where
  draw : DrawAt H DR a
  script : SqL K H a (ns.map V.int)
  short : ns.length ≤ 63
  readers : H RD = some (.lst (rs.map V.str))
  rs_ : rs ∈ draws
  bs_ : bs ∈ bnds rs
  so : Sound H p bp ds bs lo hi
  goes : ∀ x ∈ ds, x.2 ∈ rs
  many : ds.length ≤ 7
  lns : ∀ x ∈ ds, x.1 ∈ lanes
  tabs : Tabs (TT2 PP PL) H
theorem Bas.same {K : PySem.W.Frag} {H H' : Hp} {PP PL a DR RD p bp : Addr} {ns : List Int} {rs bs : List PySem.Str} {ds : List (PySem.Str × PySem.Str)} {lo hi : PySem.Str → Int} (b : Bas K H PP PL a DR RD p bp ns rs bs ds lo hi) (e : Same H H') : Bas K H' PP PL a DR RD p bp ns rs bs ds lo hi :=
  ⟨b.draw.same e, e.seq b.script, b.short, e _ _ b.readers, b.rs_, b.bs_, b.so.same e, b.goes, b.many, b.lns, b.tabs.ext e⟩
def spLaw (K : PySem.W.Frag) (PP PL : Addr) : Sp := fun vs H Q _ => ∃ (a : Addr) (ns : List Int), vs = [.ref a] ∧ SqL K H a (ns.map V.int) ∧ ns.length ≤ 63 ∧ Tabs (TT2 PP PL) H ∧ ∀ H', Q (.bl true) H'
/-- where the law stands -/
abbrev lawX (P : Program) (w : World) (K : PySem.W.Frag) (mg : PySem.Str → Option Value) (base : Heap) (f cc : Addr) (A : Around) (outer : List Env) (s : Shared) (H0 : Hp) (E : XK) : Cx := (cxOf CX0 P w K mg base nLaw "law" (defScope sLaw) f (.ref cc) A outer s H0 E).nox
/-- the state behind what is drawn -/
def LawS (K : PySem.W.Frag) (PP PL : Addr) (σ : L2.St) (H : Hp) : Prop :=
  ∃ (a DR RD p bp : Addr) (ns : List Int) (rs bs : List PySem.Str) (ds : List (PySem.Str × PySem.Str)) (lo hi : PySem.Str → Int) (s0 s6 s7 s8 s9 s10 s11 s12 s13 s14 s15 s16 s17 s18 s19 s20 s21 s22 : Option V),
    σ = [s0, some (.ref DR), some (.ref RD), some (.int ds.length), some (.ref p), some (.ref bp), s6, s7, s8, s9, s10, s11, s12, s13, s14, s15, s16, s17, s18, s19, s20, s21, s22] ∧ Bas K H PP PL a DR RD p bp ns rs bs ds lo hi
section
variable {P : Program} {w : World} {K : PySem.W.Frag} {mg : PySem.Str → Option Value} {base : Heap} {c : Cs} {f cc : Addr} {A : Around} {outer : List Env} {s : Shared} {H0 : Hp} {E : XK}
set_option maxHeartbeats 1000000 in
theorem law_A {PP PL a fT fP fD fB : Addr} {fdT fdP fdD fdB : FuncData} {ns : List Int} (T : TxD mg) (R : TxE P K mg c)
    (A_law_take : At K mg "_law_take" fT) (G_law_take : FnOk P w K mg base CX0 2 fT fdT ["draw", "many"] (spTake K)) (b_law_take : Binds K fdT ["draw", "many"] [])
    (A_law_pick : At K mg "_law_pick" fP) (G_law_pick : FnOk P w K mg base CX0 3 fP fdP ["draw", "items"] (spPick K)) (b_law_pick : Binds K fdP ["draw", "items"] [])
    (A_law_deal : At K mg "_law_deal" fD) (G_law_deal : FnOk P w K mg base CX0 4 fD fdD ["draw", "readers", "many"] (spLDeal K)) (b_law_deal : Binds K fdD ["draw", "readers", "many"] [])
    (A_law_bounds : At K mg "_law_bounds" fB) (G_law_bounds : FnOk P w K mg base CX0 3 fB fdB ["draw", "readers", "many"] (spLBounds K)) (b_law_bounds : Binds K fdB ["draw", "readers", "many"] [])
    (hr : Room 10 (lawX P w K mg base f cc A outer s H0 E).A)
    (rest : ∃ t, PSs (lawX P w K mg base f cc A outer s H0 E) ((defBody sLaw).drop 4) t ∧ ∀ σ H D, LawS K PP PL σ H → (∀ H', D.rt (.bl true) H') → t D σ H) :
    ∃ t, PSs (lawX P w K mg base f cc A outer s H0 E) (defBody sLaw) t ∧ ∀ H D, SqL K H a (ns.map V.int) → ns.length ≤ 63 → Tabs (TT2 PP PL) H → (∀ H', D.rt (.bl true) H') → t D [some (.ref a), none, none, none, none, none, none, none, none, none, none, none, none, none, none, none, none, none, none, none, none, none, none] H := by
  have nd := scLaw.nd
  have hr_law_take : Room 2 _ := hr.mono (by decide)
  have hr_law_pick : Room 3 _ := hr.mono (by decide)
  have hr_law_deal : Room 4 _ := hr.mono (by decide)
  have hr_law_bounds : Room 3 _ := hr.mono (by decide)
  obtain ⟨tR, hR, restR⟩ := rest
  refine ⟨_, (pss_cons (ps_set (i := 1) nd rfl (Or.inl rfl) (pe_lst (pa_cons (pv 0) (pa_cons pe_int pa_nil))))
      (pss_cons (ps_par (i := 2) (j := 3) (by rfl) nd rfl rfl (by decide) rfl rfl (pa_cons (pe_slice sl_list (pe_lst (pa_cons pe_str (pa_cons pe_str (pa_cons pe_str pa_nil)))) po_none (po_some (pe_op op_add pe_int (pe_call G_law_take hr_law_take (by rfl) A_law_take.g A_law_take.k b_law_take .nil pass0 (pa_cons (pv 1) (pa_cons pe_int pa_nil)))))) (pa_cons (pe_call G_law_take hr_law_take (by rfl) A_law_take.g A_law_take.k b_law_take .nil pass0 (pa_cons (pv 1) (pa_cons pe_int pa_nil))) pa_nil)) (by rfl))
      (pss_cons (ps_set (i := 4) nd rfl (Or.inr rfl) (pe_call G_law_deal hr_law_deal (by rfl) A_law_deal.g A_law_deal.k b_law_deal .nil pass0 (pa_cons (pv 1) (pa_cons (pv 2) (pa_cons (pv 3) pa_nil)))))
      (pss_cons (ps_set (i := 5) nd rfl (Or.inr rfl) (pe_call G_law_bounds hr_law_bounds (by rfl) A_law_bounds.g A_law_bounds.k b_law_bounds .nil pass0 (pa_cons (pv 1) (pa_cons (pe_call G_law_pick hr_law_pick (by rfl) A_law_pick.g A_law_pick.k b_law_pick .nil pass0 (pa_cons (pv 1) (pa_cons (pe_lst (pa_cons (pv 2) (pa_cons (pe_op op_cat (pe_slice sl_list (pv 2) po_none (po_some pe_int)) (pe_lst (pa_cons pe_str pa_nil))) (pa_cons (pe_op op_cat (pv 2) (pe_lst (pa_cons pe_str pa_nil))) (pa_cons (pe_lst (pa_cons pe_str (pa_cons pe_str pa_nil))) pa_nil))))) pa_nil))) (pa_cons (pv 3) pa_nil)))))
      hR)))), ?_⟩
  intro H D hS few tabs k
  refine into ⟨_, rfl, by show 2 ≤ sizeLine; decide, fun d nd1 => ?_⟩
  have e1 : Same H (upd H d (.lst [.ref a, .int 0])) := made nd1
  have D1 : DrawAt (upd H d (.lst [.ref a, .int 0])) d a := ⟨0, upd_same⟩
  have hS1 := e1.seq hS
  have tabs1 := tabs.ext e1
  generalize upd H d (.lst [.ref a, .int 0]) = H1 at e1 D1 hS1 tabs1
  refine ⟨by show 3 ≤ sizeLine; decide, fun L nL => ⟨_, rfl, d, a, ns, 3, rfl, D1.same (made nL), (made nL).seq hS1, few, by decide, fun H2 r o2 D2 r0 r3 => ⟨_, _, rfl, rfl, _, rfl, L, _, rfl, SqL.of (o2 _ _ upd_same fun e => by obtain ⟨k, z⟩ := D1; rw [e, z] at nL; cases nL), fun RD nRD => ?_⟩⟩⟩
  obtain ⟨rs, hrs, ecut⟩ := draw_of r0 r3
  rw [ecut]
  have o12 : Off d H1 H2 := (Off.same (made nL)).trans o2
  have e3 : Same H2 (upd H2 RD (.lst (rs.map V.str))) := made nRD
  have D3 : DrawAt (upd H2 RD (.lst (rs.map V.str))) d a := D2.same e3
  have hS3 := e3.seq (script_off D1 o12 hS1)
  have tabs3 := (Tabs.off D1 tabs1 o12).ext e3
  have hR3 : (upd H2 RD (.lst (rs.map V.str))) RD = some (.lst (rs.map V.str)) := upd_same
  generalize upd H2 RD (.lst (rs.map V.str)) = H3 at e3 D3 hS3 tabs3 hR3
  clear ecut o12 o2 D2 D1 hS1 tabs1 nL nRD e1 nd1
  refine ⟨_, rfl, d, a, ns, 8, rfl, D3, hS3, few, by decide, fun H4 m o4 D4 m0 m8 => ⟨_, _, rfl, ?_⟩⟩
  obtain ⟨m, rfl⟩ : ∃ k : Nat, m = k := ⟨m.toNat, by omega⟩
  have hS4 := script_off D3 o4 hS3
  have hR4 := off_list D3 o4 hR3
  have tabs4 := Tabs.off D3 tabs3 o4
  have rok := draws_ok rs hrs
  have rne : rs ≠ [] := by
    unfold draws at hrs
    intro z
    subst z
    exact absurd hrs (by decide +kernel)
  refine into ⟨_, rfl, _, rfl, _, rfl, d, a, RD, ns, rs, m, rfl, D4, hS4, few, hR4, rne, by omega, fun H5 p ds o5 D5 np hd el goes => ?_⟩
  have hS5 := script_off D4 o5 hS4
  have hR5 := off_list D4 o5 hR4
  have tabs5 := Tabs.off D4 tabs4 o5
  have len : ds.length = m := by
    have := congrArg List.length el
    rw [List.length_map, List.length_take] at this
    have : lanes.length = 7 := rfl
    omega
  subst len
  clear o4 D4 hS4 hR4 tabs4 D3 hS3 hR3 tabs3 o5 e3
  refine into ⟨_, rfl, _, rfl, _, rfl, _, rfl, 1, rfl, RD, _, rfl, SqL.of hR5, fun q1 n1 => ?_⟩
  have e1 := made (o := HO.lst (cutV (rs.map V.str) none (some 1))) n1
  have g1 : (upd H5 q1 (.lst (cutV (rs.map V.str) none (some 1)))) q1 = some (.lst ((rs.take 1).map V.str)) := by rw [upd_same, cut_head, List.map_take]
  generalize upd H5 q1 (.lst (cutV (rs.map V.str) none (some 1))) = G1 at e1 g1
  refine ⟨by show 1 ≤ sizeLine; decide, fun q2 n2 => ?_⟩
  have e2 := made (o := HO.lst [V.str (Str.ofString "v")]) n2
  have g2 : (upd G1 q2 (.lst [V.str (Str.ofString "v")])) q2 = some (.lst [V.str (Str.ofString "v")]) := upd_same
  generalize upd G1 q2 (.lst [V.str (Str.ofString "v")]) = G2 at e2 g2
  refine ⟨q1, q2, _, _, rfl, rfl, e2 _ _ g1, g2, by rw [List.length_map, List.length_take, sizeLine_eq]; show _ + 1 ≤ _; omega, fun q3 n3 => ?_⟩
  have e3 := made (o := HO.lst ((rs.take 1).map V.str ++ [V.str (Str.ofString "v")])) n3
  have g3 : (upd G2 q3 (.lst ((rs.take 1).map V.str ++ [V.str (Str.ofString "v")]))) q3 = some (.lst ((rs.take 1 ++ [Str.ofString "v"]).map V.str)) := by rw [upd_same, List.map_append]; rfl
  generalize upd G2 q3 (.lst ((rs.take 1).map V.str ++ [V.str (Str.ofString "v")])) = G3 at e3 g3
  have e13 := (e1.trans e2).trans e3
  clear e1 e2 e3 g1 g2 n1 n2 n3
  refine ⟨_, rfl, by show 1 ≤ sizeLine; decide, fun q4 n4 => ?_⟩
  have e4 := made (o := HO.lst [V.str (Str.ofString "v")]) n4
  have g4 : (upd G3 q4 (.lst [V.str (Str.ofString "v")])) q4 = some (.lst [V.str (Str.ofString "v")]) := upd_same
  generalize upd G3 q4 (.lst [V.str (Str.ofString "v")]) = G4 at e4 g4
  refine ⟨RD, q4, _, _, rfl, rfl, e4 _ _ (e13 _ _ hR5), g4, by have := rok.1; rw [List.length_map, sizeLine_eq]; show _ + 1 ≤ _; omega, fun q5 n5 => ?_⟩
  have e5 := made (o := HO.lst (rs.map V.str ++ [V.str (Str.ofString "v")])) n5
  have g5 : (upd G4 q5 (.lst (rs.map V.str ++ [V.str (Str.ofString "v")]))) q5 = some (.lst ((rs ++ [Str.ofString "v"]).map V.str)) := by rw [upd_same, List.map_append]; rfl
  generalize upd G4 q5 (.lst (rs.map V.str ++ [V.str (Str.ofString "v")])) = G5 at e5 g5
  have e35 := e4.trans e5
  have g3' := e35 _ _ g3
  have e15 := e13.trans e35
  clear e4 e5 g4 g3 n4 n5 e13 e35
  refine ⟨by show 2 ≤ sizeLine; decide, fun q6 n6 => ?_⟩
  have e6 := made (o := HO.lst [V.str (Str.ofString "v"), .str (Str.ofString "u")]) n6
  have g6 : (upd G5 q6 (.lst [V.str (Str.ofString "v"), .str (Str.ofString "u")])) q6 = some (.lst ([Str.ofString "v", Str.ofString "u"].map V.str)) := upd_same
  generalize upd G5 q6 (.lst [V.str (Str.ofString "v"), .str (Str.ofString "u")]) = G6 at e6 g6
  refine ⟨by show 4 ≤ sizeLine; decide, fun q7 n7 => ?_⟩
  have e7 := made (o := HO.lst [.ref RD, .ref q3, .ref q5, .ref q6]) n7
  have g7 : (upd G6 q7 (.lst [.ref RD, .ref q3, .ref q5, .ref q6])) q7 = some (.lst [.ref RD, .ref q3, .ref q5, .ref q6]) := upd_same
  have e17 := e15.trans (e6.trans e7)
  have D7 := D5.same e17
  have n7d : q7 ≠ d := fun e => by obtain ⟨k, z⟩ := D5.same (e15.trans e6); rw [e, z] at n7; cases n7
  have kb : ∀ x ∈ [V.ref RD, .ref q3, .ref q5, .ref q6], ∃ l bs, x = .ref l ∧ bs ∈ bnds rs ∧ (upd G6 q7 (.lst [.ref RD, .ref q3, .ref q5, .ref q6])) l = some (.lst (bs.map V.str)) := fun x hx => by
    have e67 := e6.trans e7
    rcases List.mem_cons.mp hx with rfl | hx
    · exact ⟨RD, rs, rfl, .head _, e17 _ _ hR5⟩
    rcases List.mem_cons.mp hx with rfl | hx
    · exact ⟨q3, _, rfl, .tail _ (.head _), e67 _ _ g3'⟩
    rcases List.mem_cons.mp hx with rfl | hx
    · exact ⟨q5, _, rfl, .tail _ (.tail _ (.head _)), e67 _ _ g5⟩
    · rw [List.mem_singleton.mp hx]
      exact ⟨q6, _, rfl, .tail _ (.tail _ (.tail _ (.head _))), e7 _ _ g6⟩
  generalize upd G6 q7 (.lst [.ref RD, .ref q3, .ref q5, .ref q6]) = G7 at e17 g7 D7 kb
  have hS7 := e17.seq hS5
  refine ⟨d, a, q7, ns, _, rfl, D7, hS7, few, n7d, g7, by simp, fun G8 x o8 D8 hx => ?_⟩
  obtain ⟨l, bs, rfl, hbs, hl⟩ := kb x hx
  have bok := bnds_ok rs hrs bs hbs
  have hS8 := script_off D7 o8 hS7
  refine ⟨_, rfl, d, a, l, ns, bs, ds.length, rfl, D8, hS8, few, off_list D7 o8 hl, bok.1, by have := bok.2.2.1; omega, by omega, fun G9 bp lo hi o9 D9 nbp hb => ?_⟩
  have o59 : Off d H5 G9 := (Off.same e17).trans (o8.trans o9)
  have hd9 := hd.off D5 o59
  exact restR _ _ _ ⟨a, d, RD, p, bp, ns, rs, bs, ds, lo, hi, _, _, _, _, _, _, _, _, _, _, _, _, _, _, _, _, _, _, rfl, ⟨D9, script_off D5 o59 hS5, few, off_list D5 o59 hR5, hrs, hbs,
    ⟨hd9, hb, (fun e => by have z := hd.off D5 ((Off.same e17).trans o8); rw [e] at z; have z' := z.at_; rw [nbp] at z'; cases z'), bok.2.1, fun x hx => ⟨lanes_words _ (List.mem_of_mem_take (el ▸ List.mem_map.mpr ⟨x, hx, rfl⟩)), nms_words _ (rok.2 _ (goes x hx))⟩, fun n hn => nms_words _ (bok.2.2.2 n hn)⟩,
    goes, by omega, fun x hx => List.mem_of_mem_take (el ▸ List.mem_map.mpr ⟨x, hx, rfl⟩), Tabs.off D5 tabs5 o59⟩⟩ k
end
end KD
end
section
/-! The law: names, limits, numbers of lanes. -/
namespace KD
open PySem PySem.Spec PyProof.Rows L2 LamX
open DM
/-- the state behind the numbers of lanes -/
structure Mid (K : PySem.W.Frag) (H : Hp) (PP PL a DR RD p bp N LI BE : Addr) (ns : List Int) (rs bs nm : List PySem.Str) (ds : List (PySem.Str × PySem.Str)) (lo hi : PySem.Str → Int) : Prop where
  bas : Bas K H PP PL a DR RD p bp ns rs bs ds lo hi
  names : H N = some (.lst (nm.map V.str))
  lim : LimAt H LI (lims lo hi nm)
  before : H BE = some (.lst ((nm.map fun n => cnt n ds).map V.int))
  nms_ : Nms ds bs lo hi nm
  few : nm.length ≤ 5
theorem Mid.same {K : PySem.W.Frag} {H H' : Hp} {PP PL a DR RD p bp N LI BE : Addr} {ns : List Int} {rs bs nm : List PySem.Str} {ds : List (PySem.Str × PySem.Str)} {lo hi : PySem.Str → Int} (b : Mid K H PP PL a DR RD p bp N LI BE ns rs bs nm ds lo hi) (e : Same H H') : Mid K H' PP PL a DR RD p bp N LI BE ns rs bs nm ds lo hi :=
  ⟨b.bas.same e, e _ _ b.names, b.lim.same e, e _ _ b.before, b.nms_, b.few⟩
theorem names_of {M : List Key} (up : MX.Up M) (h : ∀ k ∈ M, ∃ n, k = .inr n) : ∃ nm : List PySem.Str, M = nm.map Sum.inr ∧ nm.Nodup := by
  obtain ⟨nm, e⟩ : ∃ nm : List PySem.Str, M = nm.map Sum.inr := by
    clear up
    induction M with
    | nil => exact ⟨[], rfl⟩
    | cons k M ih =>
      obtain ⟨n, rfl⟩ := h k List.mem_cons_self
      obtain ⟨nm, rfl⟩ := ih fun x hx => h x (List.mem_cons_of_mem _ hx)
      exact ⟨n :: nm, rfl⟩
  refine ⟨nm, e, ?_⟩
  have nd : M.Nodup := up.imp fun {a b} hab e => by rw [e, MX.kl_irrefl] at hab; cases hab
  rw [e] at nd
  exact (List.pairwise_map.mp nd).imp fun h e => h (by rw [e])
theorem kv_strs (nm : List PySem.Str) : (nm.map Sum.inr).map kV = nm.map V.str := by
  rw [List.map_map]; rfl
theorem keys_strs {bk : List (Key × V)} {bs : List PySem.Str} (h : bk.map (·.1) = bs.map Sum.inr) : bk.map (fun kv => kV kv.1) = bs.map V.str := by
  rw [← kv_strs, ← h, List.map_map]; rfl
/-- limits made so far -/
def LimTo (G H : Hp) (L : Addr) (lo hi : PySem.Str → Int) (ms : List PySem.Str) : Prop :=
  Same G H ∧ ∃ ts : List Addr, H L = some (.lst (ts.map V.ref)) ∧ ts.length = ms.length ∧ ∀ (i : Nat) (t : Addr) (n : PySem.Str), ts[i]? = some t → ms[i]? = some n → H t = some (.tup [.int (lo n), .int (hi n)])
theorem LimTo.snoc {G H H' : Hp} {L t : Addr} {lo hi : PySem.Str → Int} {ms : List PySem.Str} {n : PySem.Str} (h : LimTo G H L lo hi ms) (e : Same H H') (nL : G L = none) (ht : H' t = some (.tup [.int (lo n), .int (hi n)])) (few : ms.length ≤ 100) :
    ∃ acc, H' L = some (.lst acc) ∧ acc.length < sizeLine ∧ LimTo G (upd H' L (.lst (acc ++ [.ref t]))) L lo hi (ms ++ [n]) := by
  obtain ⟨e0, ts, h1, h2, h3⟩ := h
  have hL := e _ _ h1
  have ne : ∀ x xs, H' x = some (.tup xs) → x ≠ L := fun x xs z q => by rw [q, hL] at z; cases z
  refine ⟨_, hL, by rw [List.length_map, h2, sizeLine_eq]; omega, put_in (e0.trans e) nL, ts ++ [t], by rw [upd_same, List.map_append]; rfl, by rw [List.length_append, List.length_append, h2]; rfl, ?_⟩
  refine get_snoc h2 (fun i x m a b => ?_) ?_
  · have z := e _ _ (h3 i x m a b)
    rw [upd_ne (ne _ _ z)]; exact z
  · rw [upd_ne (ne _ _ ht)]; exact ht
def LawM (K : PySem.W.Frag) (PP PL : Addr) (σ : L2.St) (H : Hp) : Prop :=
  ∃ (a DR RD p bp N LI BE : Addr) (ns : List Int) (rs bs nm : List PySem.Str) (ds : List (PySem.Str × PySem.Str)) (lo hi : PySem.Str → Int) (s0 s9 s10 s11 s12 s13 s14 s15 s16 s17 s18 s19 s20 s21 s22 : Option V),
    σ = [s0, some (.ref DR), some (.ref RD), some (.int ds.length), some (.ref p), some (.ref bp), some (.ref N), some (.ref LI), some (.ref BE), s9, s10, s11, s12, s13, s14, s15, s16, s17, s18, s19, s20, s21, s22] ∧ Mid K H PP PL a DR RD p bp N LI BE ns rs bs nm ds lo hi
section
variable {P : Program} {w : World} {K : PySem.W.Frag} {mg : PySem.Str → Option Value} {base : Heap} {c : Cs} {f cc : Addr} {A : Around} {outer : List Env} {s : Shared} {H0 : Hp} {E : XK}
set_option maxHeartbeats 1000000 in
theorem law_B {PP PL fL : Addr} {fdL : FuncData} (T : TxD mg) (R : TxE P K mg c)
    (A_law_loads : At K mg "_law_loads" fL) (G_law_loads : FnOk P w K mg base CX0 3 fL fdL ["deal", "readers"] spLLoads) (b_law_loads : Binds K fdL ["deal", "readers"] [])
    (hr : Room 10 (lawX P w K mg base f cc A outer s H0 E).A)
    (rest : ∃ t, PSs (lawX P w K mg base f cc A outer s H0 E) ((defBody sLaw).drop 7) t ∧ ∀ σ H D, LawM K PP PL σ H → (∀ H', D.rt (.bl true) H') → t D σ H) :
    ∃ t, PSs (lawX P w K mg base f cc A outer s H0 E) ((defBody sLaw).drop 4) t ∧ ∀ σ H D, LawS K PP PL σ H → (∀ H', D.rt (.bl true) H') → t D σ H := by
  have nd := scLaw.nd
  have hu := hr.units
  have hu1 : _ < cLine := hr.in1.units0
  have hr_law_loads : Room 3 _ := hr.mono (by decide)
  obtain ⟨tR, hR, restR⟩ := rest
  refine ⟨_, (pss_cons (ps_set (i := 6) nd rfl (Or.inl rfl) (pe_callB (MX.cr_sortedQ rfl hu) (by rfl) T.sorted (by decide +kernel) (pa_cons (pe_callTy (MX.cr_setQ rfl hu) (by rfl) T.set (by decide +kernel) (pa_cons (pe_op op_cat (pv 2) (pe_callTy (call_listD (by rfl)) (by rfl) T.list (by decide +kernel) (pa_cons (pv 5) pa_nil))) pa_nil)) pa_nil)))
      (pss_cons (ps_setLc (i := 7) (own := [("reader", 15)]) (by rfl) nd rfl rfl (sw_true rfl rfl rfl (by decide +kernel)) (pi_list (pv 6)) (blkOk_by (N := nLaw) (sc := defScope sLaw) (by decide +kernel)) (fun _ _ _ _ _ => (pg_name (i := 15) nd rfl (Or.inl rfl))) (fun _ _ _ _ _ => pts_nil) (fun _ _ _ _ _ => (pe_ifExp (pt_cmp (pc_din hu1 (pv 15) (pv 5))) (pe_dget hu1 (pv 5) (pv 15) (fun _ _ => rfl)) (pe_tup (pa_cons pe_int (pa_cons pe_int pa_nil))))))
      (pss_cons (ps_set (i := 8) nd rfl (Or.inr rfl) (pe_call G_law_loads hr_law_loads (by rfl) A_law_loads.g A_law_loads.k b_law_loads .nil pass0 (pa_cons (pv 4) (pa_cons (pv 6) pa_nil))))
      hR))), ?_⟩
  rintro σ H D ⟨a, DR, RD, p, bp, ns, rs, bs, ds, lo, hi, s0, s6, s7, s8, s9, s10, s11, s12, s13, s14, s15, s16, s17, s18, s19, s20, s21, s22, rfl, B⟩ k
  have bd := B.so.bds
  have bok := bnds_ok rs B.rs_ bs B.bs_
  have rok := draws_ok rs B.rs_
  obtain ⟨bk, hbk, keys, bnd⟩ := bd.at_
  refine into ⟨_, rfl, _, rfl, bp, bk, rfl, .inl hbk, fun q1 n1 => ?_⟩
  rw [keys_strs keys]
  have e1 : Same H (upd H q1 (.lst (bs.map V.str))) := made n1
  have g1 : (upd H q1 (.lst (bs.map V.str))) q1 = some (.lst (bs.map V.str)) := upd_same
  generalize upd H q1 (.lst (bs.map V.str)) = G1 at e1 g1
  refine ⟨RD, q1, _, _, rfl, rfl, e1 _ _ B.readers, g1, by have := rok.1; have := bok.2.2.1; rw [List.length_map, List.length_map, sizeLine_eq]; omega, fun q2 n2 => ?_⟩
  have e2 : Same G1 (upd G1 q2 (.lst (rs.map V.str ++ bs.map V.str))) := made n2
  have g2 : (upd G1 q2 (.lst (rs.map V.str ++ bs.map V.str))) q2 = some (.lst (((rs ++ bs).map Sum.inr).map kV)) := by rw [upd_same, kv_strs, List.map_append]
  generalize upd G1 q2 (.lst (rs.map V.str ++ bs.map V.str)) = G2 at e2 g2
  refine ⟨q2, _, rfl, .inl (SqL.of g2), by have := rok.1; have := bok.2.2.1; rw [List.length_map, List.length_append]; omega, fun q3 S n n3 mem le => ?_⟩
  generalize eO : MX.SetQO (lawX P w K mg base f cc A outer s H0 E).prog (lawX P w K mg base f cc A outer s H0 E).w q3 S n = O
  have e3 : Same G2 (upd G2 q3 O) := made n3
  have allS : ∀ k, S k = true → ∃ x ∈ rs ++ bs, k = .inr x := fun k hk => by
    obtain ⟨x, hx, e⟩ := List.mem_map.mp ((mem k).mp hk)
    exact ⟨x, hx, e.symm⟩
  refine ⟨q3, S, n, false, rfl, by rw [upd_same, ← eO], fun k hk => by obtain ⟨x, _, rfl⟩ := allS k hk; rfl, fun M N up memM lenM nN => ?_⟩
  have e4 : Same (upd G2 q3 O) (upd (upd G2 q3 O) N (.lst (M.map kV))) := made nN
  obtain ⟨nm, rfl, nod⟩ := names_of up fun k hk => by obtain ⟨x, _, e⟩ := allS k ((memM k).mp hk); exact ⟨x, e⟩
  have in_nm : ∀ x, x ∈ nm ↔ x ∈ rs ++ bs := fun x => by
    constructor
    · intro h
      obtain ⟨y, hy, e⟩ := allS (.inr x) ((memM _).mp (List.mem_map.mpr ⟨x, h, rfl⟩))
      rw [Sum.inr.inj e]; exact hy
    · intro h
      obtain ⟨y, hy, e⟩ := List.mem_map.mp ((memM (.inr x)).mpr ((mem _).mpr (List.mem_map.mpr ⟨x, h, rfl⟩)))
      rw [← Sum.inr.inj e]; exact hy
  have few5 : nm.length ≤ 5 := (short nms nm nod fun x hx => ((List.mem_append.mp ((in_nm x).mp hx)).elim (rok.2 x) (bok.2.2.2 x))).1
  rw [kv_strs]
  have g4 : (upd (upd G2 q3 O) N (.lst (nm.map V.str))) N = some (.lst (nm.map V.str)) := upd_same
  rw [kv_strs] at e4
  have e14 := e1.trans (e2.trans (e3.trans e4))
  generalize upd (upd G2 q3 O) N (.lst (nm.map V.str)) = G4 at e14 g4 ⊢
  have B4 := B.same e14
  have hbk4 := e14 _ _ hbk
  have nmsx : Nms ds bs lo hi nm := .of bd nod (fun x hx => (in_nm _).mpr (List.mem_append_left _ (B.goes x hx))) fun x hx => (in_nm _).mpr (List.mem_append_right _ hx)
  clear g1 g2 e1 e2 e3 e4 n1 n2 n3 nN mem memM allS
  refine into ⟨_, rfl, N, rfl, ⟨_, SqL.of g4⟩, fun LI nLI => lc_list (K := K) (a := N) (xs := nm.map V.str) (fun i H' => LimTo G4 H' LI lo hi (nm.take i)) ⟨made nLI, [], upd_same, by simp, fun i t n h => nomatch (show (none : Option Addr) = some t from h)⟩ (fun i H' _ h => SqL.of (h.1 _ _ g4)) ?_ ?_⟩
  · rintro i x H1 hx L
    obtain ⟨n, hn, rfl⟩ := str_at hx
    have small : (nm.take i).length ≤ 100 := by rw [List.length_take]; omega
    refine ⟨rfl, _, rfl, _, rfl, bp, _, rfl, DGet.k (k := .inr n) (L.1 _ _ hbk4), ?_⟩
    have b1 := (bnd n).sm (e14.trans L.1)
    rcases b1 with ⟨v1, v2, v3⟩ | ⟨t, v1, v2⟩
    · rw [v1]
      refine ⟨false, rfl, iteF ⟨by show 2 ≤ sizeLine; decide, fun t nt => ?_⟩⟩
      have s := L.snoc (n := n) (t := t) (made nt) nLI (by rw [upd_same, v2, v3]) small
      obtain ⟨acc, s1, s2, s3⟩ := s
      exact ⟨acc, s1, s2, by rw [take_snoc hn]; exact s3⟩
    · rw [v1]
      refine ⟨true, rfl, iteT ⟨_, rfl, _, rfl, bp, _, rfl, getK (k := .inr n) (.inl (L.1 _ _ hbk4)) v1, ?_⟩⟩
      obtain ⟨acc, s1, s2, s3⟩ := L.snoc (n := n) (t := t) (Same.refl _) nLI v2 small
      exact ⟨acc, s1, s2, by rw [take_snoc hn]; exact s3⟩
  · rintro H1 L
    rw [List.length_map, List.take_length] at L
    obtain ⟨e5, ts, l1, l2, l3⟩ := L
    have B5 := B4.same e5
    refine into ⟨_, rfl, _, rfl, p, N, ds, nm, rfl, B5.so.deal, e5 _ _ g4, by omega, fun H2 BE e6 nBE hBE => ?_⟩
    refine restR _ _ _ ⟨a, DR, RD, p, bp, N, LI, BE, ns, rs, bs, nm, ds, lo, hi, _, _, _, _, _, _, _, _, _, _, _, _, _, _, _, rfl, ⟨B5.same e6, e6 _ _ (e5 _ _ g4), ⟨ts, e6 _ _ l1, by unfold lims; rw [List.length_map]; exact l2, fun i t y q1 q2 => ?_⟩, hBE, nmsx, few5⟩⟩ k
    unfold lims at q2
    rw [List.getElem?_map] at q2
    cases en : nm[i]? with
    | none => rw [en] at q2; cases q2
    | some n =>
      rw [en] at q2
      cases (Option.some.inj q2)
      exact e6 _ _ (l3 i t n q1 en)
end
end KD
end
section
/-! The law: what all rows cost; no deal. -/
namespace KD
open PySem PySem.Spec PyProof.Rows L2 LamX
open DM
theorem cr_sumK {X : Cx} {K : PySem.W.Frag} (e : X.K = K) (hc : X.calm = true) : CallR X (.builtin "sum") (rSum K) := e ▸ cr_sum hc
theorem pi_zipK {X : Cx} {K : PySem.W.Frag} {e e2 : Expr} {ta : TA} {p pos tpos : Pos} {elts : List Expr} {kk : Nat} (eK : X.K = K) (hg : Gl X "zip") (hm : X.mg "zip" = none) (ha : PA X [e, e2] ta) (hs : starEach [e, e2] X.env = (false, eval e X.env) :: starEach [e2] X.env := by rfl) (hpl : (backTo pos (starEach [e2] X.env)).any (·.1) = false := by rfl) : PI X (.Tuple elts kk tpos) (.Call (.Name "zip" p) [e, e2] [] pos) (iZip K ta) := eK ▸ pi_zip hg hm ha hs hpl
/-- what a row costs, place for place -/
def costL (xs r : List Int) : List Int := List.zipWith (fun x y => max 0 (x - y)) xs r
theorem costL_sum (l : PySem.Str → Int) : ∀ (ns : List PySem.Str) (r : List Int), (costL (ns.map l) r).sum = costR l ns r
  | [], r => by unfold costR; cases r <;> rfl
  | n :: ns, [] => rfl
  | n :: ns, x :: r => by
    have ih := costL_sum l ns r
    unfold costR costL at *
    rw [List.map_cons, List.zipWith_cons_cons, List.sum_cons, ih]; rfl
theorem max_if (j : Int) : (if j > 0 then j else 0) = max 0 j := by split <;> omega
theorem dp_nd {K : PySem.W.Frag} {H : Hp} {t : Addr} {x : PySem.Str} {z : Int} (h : H t = some (.tup [.str x, .int z])) : Dp K H (.ref t) (.tuple [.str x, .int z]) := .tup (SqT.of h) (.cons (.str x) (.cons (.int z) .nil))
theorem int_in {ns : List Int} {i : Nat} {x : V} (h : (ns.map V.int)[i]? = some x) : ∃ n, ns[i]? = some n ∧ x = .int n := by
  rw [List.getElem?_map] at h
  cases e : ns[i]? with
  | none => rw [e] at h; cases h
  | some n => rw [e] at h; exact ⟨n, rfl, (Option.some.inj h).symm⟩
def LawC (K : PySem.W.Frag) (PP PL : Addr) (σ : L2.St) (H : Hp) : Prop :=
  ∃ (a DR RD p bp N LI BE CO : Addr) (ns : List Int) (rs bs nm : List PySem.Str) (ds : List (PySem.Str × PySem.Str)) (lo hi : PySem.Str → Int) (s0 s10 s11 s12 s13 s14 s15 s16 s17 s18 s19 s20 s21 s22 : Option V),
    σ = [s0, some (.ref DR), some (.ref RD), some (.int ds.length), some (.ref p), some (.ref bp), some (.ref N), some (.ref LI), some (.ref BE), some (.ref CO), s10, s11, s12, s13, s14, s15, s16, s17, s18, s19, s20, s21, s22] ∧ Mid K H PP PL a DR RD p bp N LI BE ns rs bs nm ds lo hi ∧
    H CO = some (.lst (((rows (lims lo hi nm) ds.length).map (costR (fun n => cnt n ds) nm)).map V.int)) ∧ RoomIs bs lo hi ds.length
section
variable {P : Program} {w : World} {K : PySem.W.Frag} {mg : PySem.Str → Option Value} {base : Heap} {c : Cs} {f cc : Addr} {A : Around} {outer : List Env} {s : Shared} {H0 : Hp} {E : XK}
set_option maxHeartbeats 1000000 in
theorem law_C {PP PL g fR fL : Addr} {fdg fdR fdL : FuncData} (T : TxD mg) (R : TxE P K mg c) (TB : TabB base mg cc PL)
    (A_law_rows : At K mg "_law_rows" fR) (G_law_rows : FnOk P w K mg base CX0 (5 + 2) fR fdR ["limits", "many"] (spRows 5)) (b_law_rows : Binds K fdR ["limits", "many"] [])
    (F_law_told : Fun K "_law_told" "_law_told" sToldL g fdg) (A_law_told : At K mg "_law_told" g) (b_law_told : L2.Binds K fdg ["deed"] [])
    (A_least_moves : At K mg "least_moves" fL) (G_least_moves : FnOk P w K mg base (L2.CX P w) 6 fL fdL ["deal", "bounds"] (spLeast K c)) (b_least_moves : L2.Binds K fdL ["deal", "bounds"] [])
    (hr : Room 10 (lawX P w K mg base f cc A outer s H0 E).A)
    (rest : ∃ t, PSs (lawX P w K mg base f cc A outer s H0 E) ((defBody sLaw).drop 9) t ∧ ∀ σ H D, LawC K PP PL σ H → (∀ H', D.rt (.bl true) H') → t D σ H) :
    ∃ t, PSs (lawX P w K mg base f cc A outer s H0 E) ((defBody sLaw).drop 7) t ∧ ∀ σ H D, LawM K PP PL σ H → (∀ H', D.rt (.bl true) H') → t D σ H := by
  have nd := scLaw.nd
  have hu := hr.units
  have hu1 : _ < cLine := hr.in1.units0
  have hr_law_rows : Room 7 _ := hr.mono (by decide)
  have hcode : (lawX P w K mg base f cc A outer s H0 E).env.code = .ref cc := rfl
  have hr_lam : Room (8 + 2) _ := hr
  obtain ⟨tR, hR, restR⟩ := rest
  refine ⟨_, (pss_cons (ps_setLc (i := 9) (own := [("row", 17)]) (by rfl) nd rfl rfl (sw_true rfl rfl rfl (by decide +kernel)) (pi_list (pe_call G_law_rows hr_law_rows (by rfl) A_law_rows.g A_law_rows.k b_law_rows .nil pass0 (pa_cons (pv 7) (pa_cons (pv 3) pa_nil)))) (blkOk_by (N := nLaw) (sc := defScope sLaw) (by decide +kernel)) (fun _ _ _ _ _ => (pg_name (i := 17) nd rfl (Or.inl rfl))) (fun _ _ _ _ _ => pts_nil) (fun _ _ _ _ _ => (pe_callB (cr_sumK (K := K) rfl rfl) (by rfl) T.sum (by decide +kernel) (pa_cons (pe_lc (own := [("one", 18), ("late", 11)]) (by rfl) nd (pi_zipK (K := K) rfl (by rfl) T.zip (pa_cons (pv 8) (pa_cons (pv 17) pa_nil))) (blkOk_by (by rfl)) (fun _ _ _ _ _ => (pg_tupK (K := K) (n := 2) rfl rfl (pgs_cons (pg_name (i := 18) nd rfl (Or.inl rfl)) (pgs_cons (pg_name (i := 11) nd rfl (Or.inl rfl)) pgs_nil)))) (fun _ _ _ _ _ => pts_nil) (fun _ _ _ _ _ => (pe_callB (call_max2 rfl) (by rfl) T.max (by decide +kernel) (pa_cons pe_int (pa_cons (pe_op op_sub (pv 18) (pv 11)) pa_nil))))) pa_nil))))
      (pss_cons (ps_if (pt_cmpR (op_eqD hu) (pv 9) (pe_lst pa_nil) (nomark _))
        (pss_one (ps_ret (pe_cmpR (op_eqD hu) (lam_told T R F_law_told A_law_told b_law_told TB hcode hr_lam (by rfl) (lamS_by (sc := defScope sLaw) (by decide +kernel)) (by rfl) (fun _ _ _ _ _ => rfl) (fun A outer s H E f c2 hrl => pe_call G_least_moves (hrl.mono (by decide)) (by rfl) A_least_moves.g A_least_moves.k b_least_moves .nil passLam (pa_cons (pv 4) (pa_cons (pv 5) pa_nil)))) (pe_tup (pa_cons pe_str (pa_cons pe_int pa_nil))) (nomark _))))
        pss_nil)
      hR)), ?_⟩
  rintro σ H D ⟨a, DR, RD, p, bp, N, LI, BE, ns, rs, bs, nm, ds, lo, hi, s0, s9, s10, s11, s12, s13, s14, s15, s16, s17, s18, s19, s20, s21, s22, rfl, M⟩ k
  have pos : ∀ n, 0 ≤ lo n := fun n => (M.bas.so.bds.ok n).1
  have lok : ∀ y ∈ lims lo hi nm, 0 ≤ y.1 ∧ y.1 ≤ 60 ∧ 0 ≤ y.2 ∧ y.2 ≤ 60 := fun y hy => by
    obtain ⟨n, _, rfl⟩ := List.mem_map.mp hy
    have := M.bas.so.bds.ok n
    show 0 ≤ lo n ∧ lo n ≤ 60 ∧ 0 ≤ hi n ∧ hi n ≤ 60
    omega
  have len5 : (lims lo hi nm).length ≤ 5 := by unfold lims; rw [List.length_map]; exact M.few
  have dlen := M.bas.many
  refine into ⟨_, rfl, _, rfl, LI, lims lo hi nm, ds.length, rfl, M.lim, len5, lok, by omega, by omega, fun H1 RR e1 nRR hRR => ?_⟩
  obtain ⟨as, r1, r2, r3, _⟩ := hRR.at_
  have few : (rows (lims lo hi nm) ds.length).length ≤ 32768 := Nat.le_trans (rows_few _ _ (fun y hy => (lok y hy).1) (by omega)) (Nat.le_trans (Nat.pow_le_pow_right (by decide) len5) (by decide))
  have M1 := M.same e1
  clear nRR hRR
  generalize hrows : rows (lims lo hi nm) (ds.length : Int) = rws at *
  refine ⟨RR, rfl, ⟨_, SqL.of r1⟩, fun CO nCO => lc_list (K := K) (a := RR) (xs := as.map V.ref) (fun i H' => Same H1 H' ∧ H' CO = some (.lst (((rws.take i).map (costR (fun n => cnt n ds) nm)).map V.int))) ⟨made nCO, upd_same⟩ (fun i H' _ h => SqL.of (h.1 _ _ r1)) ?_ ?_⟩
  · rintro i x H2 hx ⟨e2, h2⟩
    obtain ⟨t, ht, rfl⟩ := ref_at hx
    have lt : i < rws.length := by
      have := (List.getElem?_eq_some_iff.mp ht).1
      omega
    obtain ⟨r, hr'⟩ : ∃ r, rws[i]? = some r := ⟨_, List.getElem?_eq_getElem lt⟩
    have hrow := e2 _ _ (r3 i t r ht hr')
    have hbe := e2 _ _ M1.before
    refine ⟨rfl, _, rfl, _, rfl, BE, t, _, _, rfl, SqL.of hbe, SqL.of hrow, fun D2 nD2 => ?_⟩
    have nCD : CO ≠ D2 := fun q => by rw [← q, h2] at nD2; cases nD2
    refine lc_it (walk_zip (K := K) (a := BE) (b := t) (xs := (nm.map fun n => cnt n ds).map V.int) (ys := r.map V.int) rfl) (fun j H' => Same H2 H' ∧ H' D2 = some (.lst (((costL (nm.map fun n => cnt n ds) r).take j).map V.int))) ⟨made nD2, upd_same⟩ (fun j H' _ h => ⟨SqL.of (h.1 _ _ hbe), SqL.of (h.1 _ _ hrow)⟩) ?_ ?_
    · rintro j x H3 H4 hj ⟨e3, h3⟩ ⟨T1, y1, y2, rfl, nT, rfl, ey1, ey2⟩
      obtain ⟨u, hu', rfl⟩ := int_in ey1
      obtain ⟨v, hv, rfl⟩ := int_in ey2
      have e4 : Same H3 (upd H3 T1 (.tup [.int u, .int v])) := made nT
      have hT : (upd H3 T1 (.tup [.int u, .int v])) T1 = some (.tup [.int u, .int v]) := upd_same
      generalize upd H3 T1 (.tup [.int u, .int v]) = H4 at e4 hT
      have ec : (costL (nm.map fun n => cnt n ds) r)[j]? = some (max 0 (u - v)) := by
        unfold costL
        rw [List.getElem?_zipWith, hu', hv]
      refine ⟨T1, _, rfl, SqT.of hT, rfl, _, _, rfl, _, _, rfl, rfl, rfl, _, rfl, _, rfl, _, _, rfl, rfl, _, _, rfl, _, e4 _ _ h3, ?_, put_in (e3.trans e4) nD2, ?_⟩
      · rw [List.length_map, List.length_take, sizeLine_eq]
        have : (costL (nm.map fun n => cnt n ds) r).length ≤ 5 := by
          unfold costL
          rw [List.length_zipWith, List.length_map]; have := M.few; omega
        omega
      · rw [upd_same, max_if, take_snoc ec, List.map_append]; rfl
    · rintro H3 ⟨e3, h3⟩
      rw [List.length_map, List.length_map, List.length_map, List.take_of_length_le (by unfold costL; rw [List.length_zipWith, List.length_map]; omega)] at h3
      refine ⟨D2, _, rfl, SqL.of h3, ?_⟩
      rw [costL_sum]
      refine ⟨_, e3 _ _ h2, by rw [List.length_map, List.length_map, List.length_take, sizeLine_eq]; omega, put_in (e2.trans e3) nCO, ?_⟩
      rw [upd_same, take_snoc hr', List.map_append, List.map_append]; rfl
  · rintro H2 ⟨e2, h2⟩
    rw [List.length_map, r2, List.take_length] at h2
    have M2 := M1.same e2
    refine into ⟨_, rfl, Nat.zero_le _, fun Z nZ => ?_⟩
    have e3 : Same H2 (upd H2 Z (.lst [])) := made nZ
    refine ⟨.list ((rws.map (costR (fun n => cnt n ds) nm)).map .int), .list [], .lst (SqL.of (e3 _ _ h2)) (dp_ints _), .lst (SqL.of upd_same) .nil, shape_ints _, rfl, _, rfl, ?_⟩
    rw [eqv_nil]
    have h3 := e3 _ _ h2
    have M3 := M2.same e3
    generalize upd H2 Z (.lst []) = H3 at e3 h3 M3
    by_cases ez : rws.map (costR (fun n => cnt n ds) nm) = []
    · rw [decide_eq_true ez]
      have tabs3 : Tabs [(PL, lamL)] H3 := fun q hq => M3.bas.tabs q (by rw [List.mem_singleton.mp hq]; exact .tail _ (.head _))
      refine iteT ⟨tabs3, fun H4 e4 t4 => ⟨_, rfl, _, rfl, _, _, rfl, .inr (.inr ⟨p, bp, ds, bs, lo, hi, rfl, rfl, (Kp.ext M3.bas.draw e4).sound M3.bas.so, fun room H5 X ys way rs' _ _ _ least => ?_, fun _ H5 dd e5 ndd => .inl ⟨rfl, ⟨_, rfl, upd_same⟩, fun t nt => ⟨by show 2 ≤ sizeLine; decide, fun t2 nt2 => ?_⟩⟩⟩)⟩⟩
      · obtain ⟨f, b, told⟩ := told_of M.bas.so.bds M.bas.so.deal.once room least
        have z := (least_row M.bas.so.bds M.nms_ told).1
        rw [hrows, ez] at z
        cases z
      · refine ⟨.tuple [.str "NoDeal", .int 0], .tuple [.str "NoDeal", .int 0], dp_nd (made nt2 _ _ upd_same), dp_nd upd_same, by decide +kernel, by decide +kernel, ?_⟩
        rw [show PyData.eqv (.tuple [.str "NoDeal", .int 0]) (.tuple [.str "NoDeal", .int 0]) = true from SeqAt.eqv_refl _ (by decide +kernel)]
        exact k _
    · rw [decide_eq_false ez]
      refine iteF (restR _ _ _ ⟨a, DR, RD, p, bp, N, LI, BE, CO, ns, rs, bs, nm, ds, lo, hi, _, _, _, _, _, _, _, _, _, _, _, _, _, _, rfl, M3, by rw [hrows]; exact h3, rows_room M.bas.so.bds M.nms_ fun z => ez ?_⟩ k)
      rw [hrows] at z
      rw [z]; rfl
end
end KD
end
section
/-! The law: the moves, and where they lead. -/
namespace KD
open PySem PySem.Spec PyProof.Rows L2 LamX
open DM
/-- what has been told -/
structure Got (K : PySem.W.Frag) (c : Cs) (H : Hp) (PP PL a DR RD p bp N LI BE X AF : Addr) (ns : List Int) (rs bs nm : List PySem.Str) (ds b : List (PySem.Str × PySem.Str)) (lo hi f : PySem.Str → Int) (ys : List (PySem.Str × PySem.Str × PySem.Str)) (way : PySem.Str) (rds : List PySem.Str) : Prop where
  mid : Mid K H PP PL a DR RD p bp N LI BE ns rs bs nm ds lo hi
  ev : EvAt c H X ys way rds
  told : Told ds bs lo hi ys way rds f b
  after : H AF = some (.lst ((nm.map fun n => cnt n b).map V.int))
  room : RoomIs bs lo hi ds.length
theorem Got.same {K : PySem.W.Frag} {c : Cs} {H H' : Hp} {PP PL a DR RD p bp N LI BE X AF : Addr} {ns : List Int} {rs bs nm : List PySem.Str} {ds b : List (PySem.Str × PySem.Str)} {lo hi f : PySem.Str → Int} {ys : List (PySem.Str × PySem.Str × PySem.Str)} {way : PySem.Str} {rds : List PySem.Str}
    (g : Got K c H PP PL a DR RD p bp N LI BE X AF ns rs bs nm ds b lo hi f ys way rds) (e : Same H H') : Got K c H' PP PL a DR RD p bp N LI BE X AF ns rs bs nm ds b lo hi f ys way rds := ⟨g.mid.same e, g.ev.same e, g.told, e _ _ g.after, g.room⟩
def LawG (K : PySem.W.Frag) (c : Cs) (PP PL : Addr) (σ : L2.St) (H : Hp) : Prop :=
  ∃ (a DR RD p bp N LI BE X AF : Addr) (ns : List Int) (rs bs nm : List PySem.Str) (ds b : List (PySem.Str × PySem.Str)) (lo hi f : PySem.Str → Int) (ys : List (PySem.Str × PySem.Str × PySem.Str)) (way : PySem.Str) (rds : List PySem.Str) (s0 s9 s11 s13 s14 s15 s16 s17 s18 s19 s20 s21 s22 : Option V),
    σ = [s0, some (.ref DR), some (.ref RD), some (.int ds.length), some (.ref p), some (.ref bp), some (.ref N), some (.ref LI), some (.ref BE), s9, some (.ref X), s11, some (.ref AF), s13, s14, s15, s16, s17, s18, s19, s20, s21, s22] ∧ Got K c H PP PL a DR RD p bp N LI BE X AF ns rs bs nm ds b lo hi f ys way rds
section
variable {P : Program} {w : World} {K : PySem.W.Frag} {mg : PySem.Str → Option Value} {base : Heap} {c : Cs} {f cc : Addr} {A : Around} {outer : List Env} {s : Shared} {H0 : Hp} {E : XK}
set_option maxHeartbeats 1000000 in
theorem law_D {PP PL fL fS fLo : Addr} {fdL fdS fdLo : FuncData} (T : TxD mg) (R : TxE P K mg c)
    (A_least_moves : At K mg "least_moves" fL) (G_least_moves : FnOk P w K mg base (L2.CX P w) 6 fL fdL ["deal", "bounds"] (spLeast K c)) (b_least_moves : L2.Binds K fdL ["deal", "bounds"] [])
    (M_shows : Meth K c.moves "shows" fS) (G_shows : FnOk P w K mg base CX0 6 fS fdS ["self", "deal", "bounds"] (spShows c)) (b_shows : L2.Binds K fdS ["self", "deal", "bounds"] [])
    (A_law_loads : At K mg "_law_loads" fLo) (G_law_loads : FnOk P w K mg base CX0 3 fLo fdLo ["deal", "readers"] spLLoads) (b_law_loads : L2.Binds K fdLo ["deal", "readers"] [])
    (hr : Room 10 (lawX P w K mg base f cc A outer s H0 E).A)
    (rest : ∃ t, PSs (lawX P w K mg base f cc A outer s H0 E) ((defBody sLaw).drop 14) t ∧ ∀ σ H D, LawG K c PP PL σ H → (∀ H', D.rt (.bl true) H') → t D σ H) :
    ∃ t, PSs (lawX P w K mg base f cc A outer s H0 E) ((defBody sLaw).drop 9) t ∧ ∀ σ H D, LawC K PP PL σ H → (∀ H', D.rt (.bl true) H') → t D σ H := by
  have nd := scLaw.nd
  have hu := hr.units
  have hu1 : _ < cLine := hr.in1.units0
  have hr_law_loads : Room 3 _ := hr.mono (by decide)
  have hr_least_moves : Room 6 _ := hr.mono (by decide)
  have hr_shows : Room 6 _ := hr.mono (by decide)
  obtain ⟨tR, hR, restR⟩ := rest
  refine ⟨_, (pss_cons (ps_set (i := 10) nd rfl (Or.inl rfl) (pe_call G_least_moves hr_least_moves (by rfl) A_least_moves.g A_least_moves.k b_least_moves .nil passL (pa_cons (pv 4) (pa_cons (pv 5) pa_nil))))
      (pss_cons (ps_if (PW.pt (pw_or (pt_cmpR op_ne (pe_callB call_len_seq (by rfl) T.len PySem.boot_len (pa_cons (pe_fld (pv 10) rfl) pa_nil)) (pe_callB (cr_min rfl) (by rfl) T.min (by decide +kernel) (pa_cons (pv 9) pa_nil)) (nomark _)) (pw_or1 (pt_not (pt_val (pe_meth (pv 10) R.Moves.cl M_shows G_shows hr_shows b_shows .nil pass0 (pa_cons (pv 4) (pa_cons (pv 5) pa_nil))))))))
        (pss_one (ps_ret pe_bl))
        pss_nil)
      (pss_cons (ps_set (i := 11) nd rfl (Or.inl rfl) (pe_callTy call_dictD (by rfl) T.dict (by decide +kernel) (pa_cons (pv 4) pa_nil)))
      (pss_cons (ps_for PassesOwn.never rfl (pi_list (pe_fld (pv 10) rfl)) (pg_tup rfl (pgs_cons (pg_name (i := 14) nd rfl (Or.inl rfl)) (pgs_cons (pg_name (i := 15) nd rfl (Or.inl rfl)) (pgs_cons (pg_name (i := 16) nd rfl (Or.inl rfl)) pgs_nil))))
        (pss_cons (ps_if (PW.pt (pw_or (pt_cmpR op_ne (pe_dget hu1 (pv 11) (pv 14) (fun _ _ => rfl)) (pv 15) (nomark _)) (pw_or1 (pt_cmpR op_eq (pv 15) (pv 16) (nomark _)))))
          (pss_one (ps_ret pe_bl))
          pss_nil)
        (pss_one (ps_dput hu1 (pv 11) (pv 14) (pv 16) rfl))))
      (pss_cons (ps_set (i := 12) nd rfl (Or.inl rfl) (pe_call G_law_loads hr_law_loads (by rfl) A_law_loads.g A_law_loads.k b_law_loads .nil pass0 (pa_cons (pv 11) (pa_cons (pv 6) pa_nil))))
      hR))))), ?_⟩
  rintro σ H D ⟨a, DR, RD, p, bp, N, LI, BE, CO, ns, rs, bs, nm, ds, lo, hi, s0, s10, s11, s12, s13, s14, s15, s16, s17, s18, s19, s20, s21, s22, rfl, M, hco, room⟩ k
  refine into ⟨_, rfl, _, rfl, _, _, rfl, .inr (.inr ⟨p, bp, ds, bs, lo, hi, rfl, rfl, M.bas.so, fun _ H1 X ys way rds e1 nX ev least => ?_, fun nr => absurd room nr⟩)⟩
  obtain ⟨f, b, told⟩ := told_of M.bas.so.bds M.bas.so.deal.once room least
  have M1 := M.same e1
  have hco1 := e1 _ _ hco
  have lr := least_row M.bas.so.bds M.nms_ told
  have rlen : rds.length ≤ 5 := by
    obtain ⟨_, _, _, _, z, _⟩ := told.shows
    exact Nat.le_trans (short nm rds z fun x hx => M.nms_.all _ (told.subset x hx)).1 M.few
  have wlen : way.length ≤ sizeLine := by
    obtain ⟨_, _, _, z, _⟩ := told.shows
    rcases z with rfl | rfl <;> exact short_str (by decide)
  clear least e1 nX hco
  obtain ⟨dx, ya, rb, hx, hm, hb⟩ := ev.at_
  obtain ⟨ts, t1, t2, t3⟩ := hm.at_
  refine into ⟨_, rfl, X, _, dx, _, _, rfl, hx, R.Moves.cl, R.n_moves, mF_moves, ya, _, rfl, .inl (SqL.of t1), _, rfl, CO, _, rfl, SqL.of hco1, List.length_pos_of_mem lr.1, fun m m1 m2 => ?_⟩
  have em : m = ys.length := Int.le_antisymm (m2 _ lr.1) (lr.2 _ m1)
  subst em
  refine ⟨rfl, _, rfl, iteF' (by simp [t2]) ?_⟩
  refine ⟨_, rfl, X, dx, _, rfl, hx, mF_none (by decide +kernel), _, rfl, _, rfl, X, p, bp, ds, bs, lo, hi, ys, way, rds, rfl, ev, M1.bas.so, room, by omega, wlen, fun H2 bb e2 hbb => ⟨_, rfl, ?_⟩⟩
  rw [hbb.mpr told.shows]
  refine iteF ?_
  have M2 := M1.same e2
  have ev2 := ev.same e2
  have hx2 := e2 _ _ hx
  have s1 := e2 _ _ t1
  have s3 := fun i t y u v => e2 _ _ (t3 i t y u v)
  refine into ⟨_, rfl, p, _, rfl, .inl M2.bas.so.deal.at_, fun B nB => ?_⟩
  have e3 : Same H2 (upd H2 B (.dK (dealV ds))) := made nB
  have hB : (upd H2 B (.dK (dealV ds))) B = some (.dK (dealV ds)) := upd_same
  generalize upd H2 B (.dK (dealV ds)) = H3 at e3 hB
  refine into ⟨_, rfl, X, _, dx, _, _, rfl, e3 _ _ hx2, R.Moves.cl, R.n_moves, mF_moves, ya, rfl, ⟨_, SqL.of (e3 _ _ s1)⟩, ?_⟩
  refine for_list (xs := ts.map V.ref) (fun i σ H' => ∃ b0, (∃ y1 y2 y3, σ = [s0, some (.ref DR), some (.ref RD), some (.int ds.length), some (.ref p), some (.ref bp), some (.ref N), some (.ref LI), some (.ref BE), some (.ref CO), some (.ref X), some (.ref B), s12, s13, y1, y2, y3, s17, s18, s19, s20, s21, s22]) ∧ once ds (ys.drop i) b0 = some b ∧ b0.map (·.1) = ds.map (·.1) ∧ H' B = some (.dK (dealV b0)) ∧ Same H2 H') ⟨ds, ⟨_, _, _, rfl⟩, told.once_, rfl, hB, e3⟩ (fun i σ H' _ ⟨_, _, _, _, _, z⟩ => SqL.of (z _ _ s1)) ?_ ?_
  · rintro i x σ H' hxi ⟨b0, ⟨y1, y2, y3, rfl⟩, eo, el, zB, zs⟩
    obtain ⟨t, ht, rfl⟩ := ref_at hxi
    have lt : i < ys.length := by
      have := (List.getElem?_eq_some_iff.mp ht).1
      omega
    obtain ⟨y, hy⟩ : ∃ y, ys[i]? = some y := ⟨_, List.getElem?_eq_getElem lt⟩
    have tup := zs _ _ (s3 i t y ht hy)
    rw [drop_cons hy] at eo
    unfold once at eo
    split at eo
    · rename_i cnd
      obtain ⟨c1, c2, c3⟩ := cnd
      have v2 : valV (dealV b0) (.inr y.1) = some (.str y.2.1) := by rw [val_deal, c2]; rfl
      have bl : b0.length = ds.length := by
        have := congrArg List.length el
        rw [List.length_map, List.length_map] at this; exact this
      have few := M.bas.many
      refine ⟨t, _, rfl, SqT.of tup, rfl, _, _, rfl, _, _, rfl, _, _, rfl, rfl, ?_⟩
      refine into ⟨_, rfl, _, rfl, B, _, rfl, getK (k := .inr y.1) (.inl zB) v2, _, rfl, rfl, _, rfl, iteF' (by simp) ⟨_, rfl, _, rfl, rfl, _, rfl, iteF' (by simpa using fun e => c3 e.symm) ?_⟩⟩
      refine ⟨_, rfl, _, rfl, _, rfl, B, _, rfl, DPut.k (k := .inr y.1) zB (by rw [show (dealV b0).length = b0.length from List.length_map _, sizeLine_eq]; omega), putL b0 y.1 y.2.2, ⟨_, _, _, rfl⟩, eo, ?_, ?_, ?_⟩
      · rw [putL_lanes, el]
      · rw [upd_same, put_deal c2]
      · exact put_in zs nB
    · cases eo
  · rintro σ H' ⟨b0, ⟨y1, y2, y3, rfl⟩, eo, el, zB, zs⟩
    rw [List.length_map, t2, List.drop_length] at eo
    cases (Option.some.inj eo)
    have M4 := M2.same zs
    have once_b : (b.map (·.1)).Nodup := by rw [el]; exact M.bas.so.deal.once
    have blen : b.length = ds.length := by
      have := congrArg List.length el
      rw [List.length_map, List.length_map] at this; exact this
    refine into ⟨_, rfl, _, rfl, B, N, b, nm, rfl, ⟨zB, once_b, by have := M.bas.many; omega⟩, M4.names, by have := M.few; omega, fun H5 AF e5 nAF hAF => ?_⟩
    exact restR _ _ _ ⟨a, DR, RD, p, bp, N, LI, BE, X, AF, ns, rs, bs, nm, ds, b, lo, hi, f, ys, way, rds, _, _, _, _, _, _, _, _, _, _, _, _, _, rfl, ⟨M4.same e5, (ev2.same zs).same e5, told, hAF, room⟩⟩ k
end
end KD
end
section
/-! The law: limits, spoilt and less evidence. -/
namespace KD
open PySem PySem.Spec PyProof.Rows L2 LamX
open DM
theorem sumF_mono {σ : Type} {f g : σ → Int} {ns : List σ} (h : ∀ n ∈ ns, f n ≤ g n) : sumF f ns ≤ sumF g ns := by
  induction ns with
  | nil => exact Int.le_refl _
  | cons n ns ih =>
    have a := h n List.mem_cons_self
    have b := ih fun m hm => h m (List.mem_cons_of_mem _ hm)
    show f n + sumF f ns ≤ g n + sumF g ns
    omega
section
variable {K : PySem.W.Frag} {c : Cs} {H : Hp} {PP PL a DR RD p bp N LI BE X AF : Addr} {ns : List Int} {rs bs nm : List PySem.Str} {ds b : List (PySem.Str × PySem.Str)} {lo hi f : PySem.Str → Int} {ys : List (PySem.Str × PySem.Str × PySem.Str)} {way : PySem.Str} {rds : List PySem.Str}
theorem Got.nms_ (G : Got K c H PP PL a DR RD p bp N LI BE X AF ns rs bs nm ds b lo hi f ys way rds) : ∀ n ∈ alls ds bs, n ∈ nms := fun n hn => by
  rcases mem_alls.mp hn with z | z
  · obtain ⟨x, hx, e⟩ := (mem_rdrs _ _).mp z
    rw [← e]
    exact (draws_ok rs G.mid.bas.rs_).2 _ (G.mid.bas.goes x hx)
  · exact (bnds_ok rs G.mid.bas.rs_ bs G.mid.bas.bs_).2.2.2 n z
theorem Got.rlen (G : Got K c H PP PL a DR RD p bp N LI BE X AF ns rs bs nm ds b lo hi f ys way rds) : rds.length ≤ 5 := by
  obtain ⟨_, _, _, _, z, _⟩ := G.told.shows
  exact Nat.le_trans (short nm rds z fun x hx => G.mid.nms_.all _ (G.told.subset x hx)).1 G.mid.few
theorem Got.wlen (G : Got K c H PP PL a DR RD p bp N LI BE X AF ns rs bs nm ds b lo hi f ys way rds) : way.length ≤ sizeLine := by
  obtain ⟨_, _, _, z, _⟩ := G.told.shows
  rcases z with rfl | rfl <;> exact short_str (by decide)
theorem Got.yok (G : Got K c H PP PL a DR RD p bp N LI BE X AF ns rs bs nm ds b lo hi f ys way rds) : ∀ y ∈ ys, okS y.1 ∧ okS y.2.1 ∧ okS y.2.2 := fun y hy => by
  have z := G.told.each y hy
  exact ⟨lanes_ok _ (G.mid.bas.lns _ z.1), nms_ok _ (G.nms_ _ (mem_alls.mpr (.inl ((mem_rdrs _ _).mpr ⟨_, z.1, rfl⟩)))), nms_ok _ (G.nms_ _ z.2)⟩
theorem Got.rok (G : Got K c H PP PL a DR RD p bp N LI BE X AF ns rs bs nm ds b lo hi f ys way rds) : ∀ r ∈ rds, okS r := fun r hr => nms_ok _ (G.nms_ _ (G.told.subset r hr))
theorem Got.ylen (G : Got K c H PP PL a DR RD p bp N LI BE X AF ns rs bs nm ds b lo hi f ys way rds) : ys.length ≤ 7 := by
  have h : sumF (fun n => max 0 (cnt n ds - f n)) (alls ds bs) ≤ sumF (fun n => cnt n ds) (alls ds bs) := sumF_mono fun n hn => by
    have w := G.told.within n hn
    have l := (G.mid.bas.so.bds.ok n).1
    have := cnt_0 n ds
    omega
  rw [sum_deal G.mid.bas.so.bds.once, ← G.told.many] at h
  have := G.mid.bas.many
  omega
theorem spoilt_few {e : List (PySem.Str × PySem.Str × PySem.Str) × List PySem.Str} (h : e ∈ spoilt ys rds) : e.2.length ≤ rds.length + 1 := by
  unfold spoilt at h
  rcases List.mem_append.mp h with h | h
  · split at h
    · cases h
    · rcases List.mem_cons.mp h with rfl | h
      · exact Nat.le_succ _
      · rw [List.mem_singleton.mp h]; exact Nat.le_succ _
  · split at h
    · cases h
    · rw [List.mem_singleton.mp h]
      show (rds ++ rds.take 1).length ≤ _
      rw [List.length_append, List.length_take]; omega
end
section
variable {P : Program} {w : World} {K : PySem.W.Frag} {mg : PySem.Str → Option Value} {base : Heap} {c : Cs} {f cc : Addr} {A : Around} {outer : List Env} {s : Shared} {H0 : Hp} {E : XK}
set_option maxHeartbeats 1000000 in
theorem law_E {PP PL fS fSp : Addr} {fdS fdSp : FuncData} (T : TxD mg) (R : TxE P K mg c)
    (M_shows : Meth K c.moves "shows" fS) (G_shows : FnOk P w K mg base CX0 6 fS fdS ["self", "deal", "bounds"] (spShows c)) (b_shows : L2.Binds K fdS ["self", "deal", "bounds"] [])
    (A_law_spoilt : At K mg "_law_spoilt" fSp) (G_law_spoilt : FnOk P w K mg base CX0 3 fSp fdSp ["found"] (spSpoilt c)) (b_law_spoilt : L2.Binds K fdSp ["found"] [])
    (hr : Room 10 (lawX P w K mg base f cc A outer s H0 E).A)
    (rest : ∃ t, PSs (lawX P w K mg base f cc A outer s H0 E) ((defBody sLaw).drop 16) t ∧ ∀ σ H D, LawG K c PP PL σ H → (∀ H', D.rt (.bl true) H') → t D σ H) :
    ∃ t, PSs (lawX P w K mg base f cc A outer s H0 E) ((defBody sLaw).drop 14) t ∧ ∀ σ H D, LawG K c PP PL σ H → (∀ H', D.rt (.bl true) H') → t D σ H := by
  have nd := scLaw.nd
  have hu := hr.units
  have hu1 : _ < cLine := hr.in1.units0
  have hr_law_spoilt : Room 3 _ := hr.mono (by decide)
  have hr_shows : Room 6 _ := hr.mono (by decide)
  obtain ⟨tR, hR, restR⟩ := rest
  refine ⟨_, (pss_cons (ps_if (PW.pt (pw_or (pt_not (pt_val (pe_callB (cr_all rfl) (by rfl) T.all (by decide +kernel) (pa_cons (pe_lc (own := [("load", 19), ("low", 20), ("high", 21)]) (by rfl) nd (pi_zip (by rfl) T.zip (pa_cons (pv 12) (pa_cons (pv 7) pa_nil))) (blkOk_by (N := nLaw) (sc := defScope sLaw) (by decide +kernel)) (fun _ _ _ _ _ => (pg_tupK (K := K) (n := 2) rfl rfl (pgs_cons (pg_name (i := 19) nd rfl (Or.inl rfl)) (pgs_cons (pg_tupK (K := K) (n := 2) rfl rfl (pgs_cons (pg_name (i := 20) nd rfl (Or.inl rfl)) (pgs_cons (pg_name (i := 21) nd rfl (Or.inl rfl)) pgs_nil))) pgs_nil)))) (fun _ _ _ _ _ => pts_nil) (fun _ _ _ _ _ => (pe_chain op_le op_le (pv 20) (pv 19) (pv 21)))) pa_nil)))) (pw_or1 (pt_cmpR op_ne (pe_callB (cr_sum rfl) (by rfl) T.sum (by decide +kernel) (pa_cons (pv 12) pa_nil)) (pv 3) (nomark _)))))
        (pss_one (ps_ret pe_bl))
        pss_nil)
      (pss_cons (ps_if (pt_val (pe_callB (cr_any rfl) (by rfl) T.any (by decide +kernel) (pa_cons (pe_lc (own := [("wrong", 22)]) (by rfl) nd (pi_list (pe_call G_law_spoilt hr_law_spoilt (by rfl) A_law_spoilt.g A_law_spoilt.k b_law_spoilt .nil pass0 (pa_cons (pv 10) pa_nil))) (blkOk_by (N := nLaw) (sc := defScope sLaw) (by decide +kernel)) (fun _ _ _ _ _ => (pg_name (i := 22) nd rfl (Or.inl rfl))) (fun _ _ _ _ _ => pts_nil) (fun _ _ _ _ _ => (pe_meth (pv 22) R.Moves.cl M_shows G_shows hr_shows b_shows .nil pass0 (pa_cons (pv 4) (pa_cons (pv 5) pa_nil))))) pa_nil)))
        (pss_one (ps_ret pe_bl))
        pss_nil)
      hR)), ?_⟩
  rintro σ H D ⟨a, DR, RD, p, bp, N, LI, BE, X, AF, ns, rs, bs, nm, ds, b, lo, hi, f, ys, way, rds, s0, s9, s11, s13, s14, s15, s16, s17, s18, s19, s20, s21, s22, rfl, G⟩ k
  have ain := after_in G.mid.nms_ G.told
  obtain ⟨ts, l1, l2, l3⟩ := G.mid.lim.at_
  have few := G.mid.few
  refine into ⟨_, rfl, _, rfl, AF, LI, _, _, rfl, SqL.of G.after, SqL.of l1, fun D1 nD1 => ?_⟩
  refine lc_it (walk_zip (K := K) (a := AF) (b := LI) (xs := (nm.map fun n => cnt n b).map V.int) (ys := ts.map V.ref) rfl) (fun j H' => Same H H' ∧ H' D1 = some (.lst ((List.replicate j true).map V.bl))) ⟨made nD1, upd_same⟩ (fun j H' _ h => ⟨SqL.of (h.1 _ _ G.after), SqL.of (h.1 _ _ l1)⟩) ?_ ?_
  · rintro j x H3 H4 hj ⟨e3, h3⟩ ⟨T1, y1, y2, rfl, nT, rfl, ey1, ey2⟩
    obtain ⟨u, hu', rfl⟩ := int_in ey1
    obtain ⟨t, ht, rfl⟩ := ref_at ey2
    have e4 : Same H3 (upd H3 T1 (.tup [.int u, .ref t])) := made nT
    have hT : (upd H3 T1 (.tup [.int u, .ref t])) T1 = some (.tup [.int u, .ref t]) := upd_same
    generalize upd H3 T1 (.tup [.int u, .ref t]) = H4 at e4 hT
    obtain ⟨n, hn, eu⟩ : ∃ n, nm[j]? = some n ∧ u = cnt n b := by
      rw [List.getElem?_map] at hu'
      cases e : nm[j]? with
      | none => rw [e] at hu'; cases hu'
      | some n => rw [e] at hu'; exact ⟨n, rfl, (Option.some.inj hu').symm⟩
    have tup := e4 _ _ (e3 _ _ (l3 j t (lo n, hi n) ht (by unfold lims; rw [List.getElem?_map, hn]; rfl)))
    have small : j < 5 := by have := (List.getElem?_eq_some_iff.mp hn).1; omega
    have w := ain.1 n
    refine ⟨T1, _, rfl, SqT.of hT, rfl, _, _, rfl, _, _, rfl, t, _, rfl, SqT.of tup, rfl, _, _, rfl, _, _, rfl, rfl, rfl, rfl, _, rfl, _, rfl, _, _, rfl, rfl, _, rfl, ?_⟩
    subst eu
    rw [decide_eq_true w.1]
    refine iteT ⟨_, rfl, _, _, rfl, rfl, _, e4 _ _ h3, by rw [List.length_map, List.length_replicate, sizeLine_eq]; omega, put_in (e3.trans e4) nD1, ?_⟩
    rw [upd_same, List.replicate_succ', List.map_append]
    show some (HO.lst (_ ++ [V.bl (decide (cnt n b ≤ hi n))])) = _
    rw [decide_eq_true w.2]; rfl
  · rintro H3 ⟨e3, h3⟩
    refine ⟨D1, _, rfl, SqL.of h3, _, rfl, ?_⟩
    rw [show (List.replicate _ true).all id = true from List.all_eq_true.mpr fun x hx => by rw [(List.mem_replicate.mp hx).2]; rfl]
    refine iteF ⟨_, rfl, AF, _, rfl, SqL.of (e3 _ _ G.after), _, rfl, rfl, _, rfl, ?_⟩
    rw [sum_map, ain.2]
    refine iteF' (by simp) ?_
    have G3 := G.same e3
    clear h3
    try unfold tNext
    dsimp only
    have rlen := G.rlen
    have ylen := G.ylen
    refine into ⟨_, rfl, X, ys, way, rds, rfl, G3.ev, by omega, by omega, G.yok, G.rok, fun H4 W e4 hW => ?_⟩
    · obtain ⟨as, w1, w2, w3⟩ := hW.at_
      have no := spoilt_no G.told.shows
      have G4 := G3.same e4
      have slen : (spoilt ys rds).length ≤ 3 := by
        unfold spoilt
        rw [List.length_append]
        split <;> split <;> simp
      refine ⟨W, rfl, ⟨_, SqL.of w1⟩, fun D2 nD2 => lc_list (K := K) (a := W) (xs := as.map V.ref) (fun j H' => Same H4 H' ∧ H' D2 = some (.lst ((List.replicate j false).map V.bl))) ⟨made nD2, upd_same⟩ (fun i H' _ h => SqL.of (h.1 _ _ w1)) ?_ ?_⟩
      · rintro j x H5 hx ⟨e5, h5⟩
        obtain ⟨x, hx', rfl⟩ := ref_at hx
        obtain ⟨e, he⟩ : ∃ e, (spoilt ys rds)[j]? = some e := ⟨_, List.getElem?_eq_getElem (by have := (List.getElem?_eq_some_iff.mp hx').1; omega)⟩
        have ej := (w3 j x e hx' he).same e5
        have mem := List.mem_of_getElem? he
        obtain ⟨dx, ya, rb, i1, i2, i3⟩ := ej.at_
        have lt := (List.getElem?_eq_some_iff.mp he).1
        refine ⟨rfl, _, rfl, x, dx, _, rfl, i1, mF_none (by decide +kernel), _, rfl, _, rfl, x, p, bp, ds, bs, lo, hi, e.1, way, e.2, rfl, ej, (G4.mid.bas.same e5).so, G.room, by have := spoilt_few mem; omega, G.wlen, fun H6 bb e6 hbb => ⟨_, e6 _ _ h5, by rw [List.length_map, List.length_replicate, sizeLine_eq]; omega, put_in (e5.trans e6) nD2, ?_⟩⟩
        have : bb = false := by
          cases bb with
          | false => rfl
          | true => exact absurd (hbb.mp rfl) (no e mem)
        rw [upd_same, this, List.replicate_succ', List.map_append]; rfl
      · rintro H5 ⟨e5, h5⟩
        refine ⟨D2, _, rfl, SqL.of h5, _, rfl, ?_⟩
        rw [show (List.replicate _ false).any id = false from List.any_eq_false.mpr fun x hx => by rw [(List.mem_replicate.mp hx).2]; exact Bool.false_ne_true]
        exact iteF (restR _ _ _ ⟨a, DR, RD, p, bp, N, LI, BE, X, AF, ns, rs, bs, nm, ds, b, lo, hi, f, ys, way, rds, _, _, _, _, _, _, _, _, _, _, _, _, _, rfl, G4.same e5⟩ k)
end
end KD
end
section
/-! The law: less evidence, refusals; the law as a whole. -/
namespace KD
open PySem PySem.Spec PyProof.Rows L2 LamX
open DM
section
variable {P : Program} {w : World} {K : PySem.W.Frag} {mg : PySem.Str → Option Value} {base : Heap} {c : Cs} {f cc : Addr} {A : Around} {outer : List Env} {s : Shared} {H0 : Hp} {E : XK}
set_option maxHeartbeats 1000000 in
theorem law_F {PP PL fT fS fI fB fX : Addr} {fdT fdS fdI fdB fdX : FuncData} (T : TxD mg) (R : TxE P K mg c)
    (A_law_take : At K mg "_law_take" fT) (G_law_take : FnOk P w K mg base CX0 2 fT fdT ["draw", "many"] (spTake K)) (b_law_take : L2.Binds K fdT ["draw", "many"] [])
    (M_shows : Meth K c.moves "shows" fS) (G_shows : FnOk P w K mg base CX0 6 fS fdS ["self", "deal", "bounds"] (spShows c)) (b_shows : L2.Binds K fdS ["self", "deal", "bounds"] [])
    (M_Moves : Mk K c.moves fI) (G_Moves : FnOk P w K mg base CX0 1 fI fdI ["self", "moves", "way", "readers"] (spMI c)) (b_Moves : L2.Binds K fdI ["self", "moves", "way", "readers"] [])
    (A_law_bar : At K mg "_law_bar" fB) (G_law_bar : FnOk P w K mg base CX0 2 fB fdB ["found", "readers", "names", "before", "limits"] (spBar c)) (b_law_bar : L2.Binds K fdB ["found", "readers", "names", "before", "limits"] [])
    (A_law_refused : At K mg "_law_refused" fX) (G_law_refused : FnOk P w K mg base CX0 10 fX fdX ["draw", "deal", "bounds"] (spRefdD K PP)) (b_law_refused : L2.Binds K fdX ["draw", "deal", "bounds"] [])
    (hr : Room 10 (lawX P w K mg base f cc A outer s H0 E).A) :
    ∃ t, PSs (lawX P w K mg base f cc A outer s H0 E) ((defBody sLaw).drop 16) t ∧ ∀ σ H D, LawG K c PP PL σ H → (∀ H', D.rt (.bl true) H') → t D σ H := by
  have nd := scLaw.nd
  have hu := hr.units
  have hu1 : _ < cLine := hr.in1.units0
  have hr_law_take : Room 2 _ := hr.mono (by decide)
  have hr_law_bar : Room 2 _ := hr.mono (by decide)
  have hr_Moves : Room 2 _ := hr.mono (by decide)
  have hr_shows : Room 6 _ := hr.mono (by decide)
  have hr_law_refused : Room 10 _ := hr
  refine ⟨_, (pss_cons (ps_set (i := 13) nd rfl (Or.inl rfl) (pe_slice sl_list (pe_fld (pv 10) rfl) (po_some pe_int) po_none))
      (pss_cons (ps_if (pt_cmpR op_ne (pe_meth (pe_make M_Moves G_Moves hr_Moves (by rfl) R.Moves.g b_Moves .nil pass0 (pa_cons (pe_fld (pv 10) rfl) (pa_cons (pe_fld (pv 10) rfl) (pa_cons (pv 13) pa_nil)))) R.Moves.cl M_shows G_shows hr_shows b_shows .nil pass0 (pa_cons (pv 4) (pa_cons (pv 5) pa_nil))) (pe_cmpR op_eq (pe_call G_law_bar hr_law_bar (by rfl) A_law_bar.g A_law_bar.k b_law_bar .nil pass0 (pa_cons (pv 10) (pa_cons (pv 13) (pa_cons (pv 6) (pa_cons (pv 8) (pa_cons (pv 7) pa_nil)))))) (pe_callB call_len_seq (by rfl) T.len PySem.boot_len (pa_cons (pe_fld (pv 10) rfl) pa_nil)) (nomark _)) (nomark _))
        (pss_one (ps_ret pe_bl))
        pss_nil)
      (pss_one (ps_ret (pe_or (pe_cmpR op_gt (pe_call G_law_take hr_law_take (by rfl) A_law_take.g A_law_take.k b_law_take .nil pass0 (pa_cons (pv 1) (pa_cons pe_int pa_nil))) pe_int (nomark _)) (pe_one (pe_call G_law_refused hr_law_refused (by rfl) A_law_refused.g A_law_refused.k b_law_refused .nil pass0 (pa_cons (pv 1) (pa_cons (pv 4) (pa_cons (pv 5) pa_nil)))))))))), ?_⟩
  rintro σ H D ⟨a, DR, RD, p, bp, N, LI, BE, X, AF, ns, rs, bs, nm, ds, b, lo, hi, f, ys, way, rds, s0, s9, s11, s13, s14, s15, s16, s17, s18, s19, s20, s21, s22, rfl, G⟩ k
  obtain ⟨dx, ya, rb, hx, hm, hb⟩ := G.ev.at_
  obtain ⟨ts, t1, t2, t3⟩ := hm.at_
  refine into ⟨_, rfl, X, _, dx, _, _, rfl, hx, R.Moves.cl, R.n_readers, mF_readers, 1, rfl, rb, _, rfl, SqL.of hb, fun L nL => ?_⟩
  have e1 : Same H (upd H L (.lst (cutV (rds.map V.str) (some 1) none))) := made nL
  have hL : (upd H L (.lst (cutV (rds.map V.str) (some 1) none))) L = some (.lst ((rds.drop 1).map V.str)) := by rw [upd_same, cut_tail, List.map_drop]
  generalize upd H L (.lst (cutV (rds.map V.str) (some 1) none)) = H1 at e1 hL
  have G1 := G.same e1
  have hx1 := e1 _ _ hx
  have s1 := e1 _ _ t1
  have rlen := G.rlen
  have ylen := G.ylen
  have dlen : (rds.drop 1).length ≤ 5 := by rw [List.length_drop]; omega
  refine into ⟨_, rfl, X, _, dx, _, _, rfl, hx1, R.Moves.cl, R.n_moves, mF_moves, _, rfl, X, _, dx, _, _, rfl, hx1, R.Moves.cl, R.n_way, mF_way, _, rfl, ?_⟩
  refine ev_made (zs := ys) (ss := rds.drop 1) H1 ya L ts _ s1 t2 (fun i t y u v => e1 _ _ (t3 i t y u v)) hL fun H2 o e2 no evo => ?_
  have ev2 := (evo X (by rw [hx1]; exact fun z => by cases z)).ev
  obtain ⟨dx2, ya2, rb2, ho, _, _⟩ := ev2.at_
  have G2 := G1.same e2
  refine ⟨o, dx2, _, rfl, ho, mF_none (by decide +kernel), _, rfl, _, rfl, o, p, bp, ds, bs, lo, hi, ys, way, rds.drop 1, rfl, ev2, G2.mid.bas.so, G.room, by omega, G.wlen, fun H3 bb e3 hbb => ?_⟩
  have G3 := G2.same e3
  have hL3 := e3 _ _ (e2 _ _ hL)
  refine ⟨_, rfl, _, rfl, _, rfl, _, rfl, _, rfl, X, L, N, BE, LI, ys, way, rds, rds.drop 1, nm, fun n => cnt n ds, lo, hi, rfl, G3.ev, hL3, G3.mid.names, G3.mid.before, G3.mid.lim, by have := G.mid.few; omega, fun H4 e4 => ?_⟩
  have G4 := G3.same e4
  have e14 := e2.trans (e3.trans e4)
  refine ⟨_, rfl, X, _, dx, _, _, rfl, e14 _ _ hx1, R.Moves.cl, R.n_moves, mF_moves, ya, _, rfl, .inl (SqL.of (e14 _ _ s1)), rfl, rfl, _, rfl, ?_⟩
  have same : bb = decide (V.int (sumF (barF (fun n => cnt n ds) lo hi way (rds.drop 1)) nm) = V.int (ts.map V.ref).length) := by
    have z := less_shows G.mid.nms_ G.told
    rw [Bool.eq_iff_iff, hbb, z, decide_eq_true_iff, List.length_map, t2]
    exact ⟨fun q => by rw [q], fun q => V.int.inj q⟩
  refine iteF' (by rw [same]; simp) ?_
  have B4 := G4.mid.bas
  refine into ⟨_, rfl, DR, a, ns, 5, rfl, B4.draw, B4.script, B4.short, by decide, fun H5 r o5 D5 r0 r5 => ⟨_, _, rfl, rfl, _, rfl, ?_⟩⟩
  rcases Decidable.em (r > 0) with c1 | c1
  · rw [decide_eq_true c1]
    exact iteT (k H5)
  · rw [decide_eq_false c1]
    have kp := Kp.off B4.draw D5 o5
    exact iteF ⟨_, rfl, _, rfl, _, rfl, DR, a, p, bp, ns, ds, bs, lo, hi, rfl, D5, kp.script B4.script, B4.short, kp.sound B4.so, Tabs.off B4.draw (fun q hq => B4.tabs q (by rw [List.mem_singleton.mp hq]; exact .head _)) o5, fun H6 => k H6⟩
end
end KD
end
section
/-! The law as a whole. -/
namespace KD
open PySem PySem.Spec PyProof.Rows L2 LamX
open DM
section
variable {P : Program} {w : World} {K : PySem.W.Frag} {mg : PySem.Str → Option Value} {base : Heap} {c : Cs}
theorem ok_law {PP PL cc f g fT fP fD fB fLo fR fL fS fSp fI fBa fX : Addr} {fd fdg fdT fdP fdD fdB fdLo fdR fdL fdS fdSp fdI fdBa fdX : FuncData} (F : FunC K "law" "law" sLaw f fd cc) (T : TxD mg) (R : TxE P K mg c) (TB : TabB base mg cc PL)
    (A_law_take : At K mg "_law_take" fT) (G_law_take : FnOk P w K mg base CX0 2 fT fdT ["draw", "many"] (spTake K)) (b_law_take : L2.Binds K fdT ["draw", "many"] [])
    (A_law_pick : At K mg "_law_pick" fP) (G_law_pick : FnOk P w K mg base CX0 3 fP fdP ["draw", "items"] (spPick K)) (b_law_pick : L2.Binds K fdP ["draw", "items"] [])
    (A_law_deal : At K mg "_law_deal" fD) (G_law_deal : FnOk P w K mg base CX0 4 fD fdD ["draw", "readers", "many"] (spLDeal K)) (b_law_deal : L2.Binds K fdD ["draw", "readers", "many"] [])
    (A_law_bounds : At K mg "_law_bounds" fB) (G_law_bounds : FnOk P w K mg base CX0 3 fB fdB ["draw", "readers", "many"] (spLBounds K)) (b_law_bounds : L2.Binds K fdB ["draw", "readers", "many"] [])
    (A_law_loads : At K mg "_law_loads" fLo) (G_law_loads : FnOk P w K mg base CX0 3 fLo fdLo ["deal", "readers"] spLLoads) (b_law_loads : L2.Binds K fdLo ["deal", "readers"] [])
    (A_law_rows : At K mg "_law_rows" fR) (G_law_rows : FnOk P w K mg base CX0 (5 + 2) fR fdR ["limits", "many"] (spRows 5)) (b_law_rows : L2.Binds K fdR ["limits", "many"] [])
    (F_law_told : Fun K "_law_told" "_law_told" sToldL g fdg) (A_law_told : At K mg "_law_told" g) (b_law_told : L2.Binds K fdg ["deed"] [])
    (A_least_moves : At K mg "least_moves" fL) (G_least_moves : FnOk P w K mg base (L2.CX P w) 6 fL fdL ["deal", "bounds"] (spLeast K c)) (b_least_moves : L2.Binds K fdL ["deal", "bounds"] [])
    (M_shows : Meth K c.moves "shows" fS) (G_shows : FnOk P w K mg base CX0 6 fS fdS ["self", "deal", "bounds"] (spShows c)) (b_shows : L2.Binds K fdS ["self", "deal", "bounds"] [])
    (A_law_spoilt : At K mg "_law_spoilt" fSp) (G_law_spoilt : FnOk P w K mg base CX0 3 fSp fdSp ["found"] (spSpoilt c)) (b_law_spoilt : L2.Binds K fdSp ["found"] [])
    (M_Moves : Mk K c.moves fI) (G_Moves : FnOk P w K mg base CX0 1 fI fdI ["self", "moves", "way", "readers"] (spMI c)) (b_Moves : L2.Binds K fdI ["self", "moves", "way", "readers"] [])
    (A_law_bar : At K mg "_law_bar" fBa) (G_law_bar : FnOk P w K mg base CX0 2 fBa fdBa ["found", "readers", "names", "before", "limits"] (spBar c)) (b_law_bar : L2.Binds K fdBa ["found", "readers", "names", "before", "limits"] [])
    (A_law_refused : At K mg "_law_refused" fX) (G_law_refused : FnOk P w K mg base CX0 10 fX fdX ["draw", "deal", "bounds"] (spRefdD K PP)) (b_law_refused : L2.Binds K fdX ["draw", "deal", "bounds"] []) :
    FnOk P w K mg base CX0 11 f fd ["script"] (spLaw K PP PL) := by
  refine F.ok scLaw (fun vs H Q E h => ?_) (fun A outer s H vs Q E hr h => ?_)
  · obtain ⟨a, ns, rfl, _⟩ := h
    rfl
  · obtain ⟨a, ns, rfl, hS, few, tabs, k⟩ := h
    obtain ⟨t, ht, run⟩ := law_A (PP := PP) (PL := PL) (ns := ns) (a := a) T R A_law_take G_law_take b_law_take A_law_pick G_law_pick b_law_pick A_law_deal G_law_deal b_law_deal A_law_bounds G_law_bounds b_law_bounds hr
      (law_B T R A_law_loads G_law_loads b_law_loads hr
        (law_C T R TB A_law_rows G_law_rows b_law_rows F_law_told A_law_told b_law_told A_least_moves G_least_moves b_least_moves hr
          (law_D T R A_least_moves G_least_moves b_least_moves M_shows G_shows b_shows A_law_loads G_law_loads b_law_loads hr
            (law_E T R M_shows G_shows b_shows A_law_spoilt G_law_spoilt b_law_spoilt hr
              (law_F T R A_law_take G_law_take b_law_take M_shows G_shows b_shows M_Moves G_Moves b_Moves A_law_bar G_law_bar b_law_bar A_law_refused G_law_refused b_law_refused hr)))))
    exact ⟨t, ht, run H _ hS few tabs k⟩
end
theorem from_law {l : PySem.W.OpenLaw} {q : Program} {loose : List PySem.Str} {XP : (PySem.Str → Option Value) → Heap → Prop} {YP : World → Heap → Prop} {d : DefRec} {K : Params → PySem.W.Frag} (hn : l.most = some 63) (hdf : d.params.defaults = [])
    (hY : ∀ (w : World) (h : Heap), YP w h → (K w.params).In h)
    (facts : ∀ (w : World) (mg : PySem.Str → Option Value) (fa : Addr) (h : Heap), YP w h → (K w.params).In h → h.Ns mainGlobals mg → mg d.name = some (.ref fa) →
      ∃ (fd : FuncData) (cc PP cl PL : Addr), (h.get? PP = some { cls := .none, data := .fields #[] } ∧ (K w.params).lookup PP = none ∧ PySem.W.CodeHd h cc PP) ∧ (h.get? PL = some { cls := .none, data := .fields #[] } ∧ (K w.params).lookup PL = none ∧ PySem.W.CodeHd h cl PL) ∧ (∀ (s : Shared) (u : Value), BindsTo s fd ⟨[u], []⟩ [("script", u)]) ∧
        ∀ base : Heap, (K w.params).In base → base.Ns mainGlobals mg → TabB base mg cc PP → TabB base mg cl PL → FnOk l.prog w (K w.params) mg base CX0 11 fa fd ["script"] (spLaw (K w.params) PP PL)) : PySem.W.WalkO q loose XP YP l.row.toRowW d [] (fun f vs => PySem.call f vs) :=
  LamX.walk_ofTs (n := 63) (k := 11) (x := "script") (CX := fun _ => CX0) hn (by decide) hdf ⟨rfl, by decide, by decide⟩ hY
    (fun w mg fa h Y i g e => by
      obtain ⟨fd, cc, PP, cl, PL, h1, h2, b, c⟩ := facts w mg fa h Y i g e
      refine ⟨fd, [(cc, PP), (cl, PL)], spLaw (K w.params) PP PL, fun p hp => ?_, fun p hp => ?_, fun p hp => ?_, b, fun H a ns hl _ hT hS => ⟨a, ns, rfl, hS, hl, fun p hp => ?_, fun _ => rfl⟩, fun base i g tb => c base i g (tb _ (.head _)) (tb _ (.tail _ (.head _)))⟩
      · rcases List.mem_cons.mp hp with rfl | hp
        · exact h1.1
        · rw [List.mem_singleton.mp hp]; exact h2.1
      · rcases List.mem_cons.mp hp with rfl | hp
        · exact h1.2.1
        · rw [List.mem_singleton.mp hp]; exact h2.2.1
      · rcases List.mem_cons.mp hp with rfl | hp
        · exact h1.2.2
        · rw [List.mem_singleton.mp hp]; exact h2.2.2
      · rcases List.mem_cons.mp hp with rfl | hp
        · exact TabS.nil (hT _ (.head _))
        · rw [List.mem_singleton.mp hp]; exact TabS.nil (hT _ (.tail _ (.head _))))
    fun _ _ _ _ _ z => z
end KD
end
section
/-! From what the top has written to the law. -/
namespace KD
open PySem L2 LamX
theorem kit_sub {K : PySem.W.Frag} {t : Value} {C : Addr} {v : Bool} (hd : PySem.W.hasDictIn K C = true) (ty : PySem.W.typeIn K (.ref C) = some (.type "type")) (su : PySem.W.subIn K t (.ref C) = some v) (ne : (t == .ref C) = true → v = true) : PySem.W.kitOne K t (.ref C) = some v := by
  obtain ⟨cd, hc, _⟩ := PySem.W.any_some hd
  have e2 : ((PySem.W.clsIn K C).isSome && PySem.W.typeIn K (.ref C) == some (.type "type")) = true := by rw [hc, ty] <;> rfl
  unfold PySem.W.kitOne
  split
  · rename_i h; rw [ne h]
  · show (if ((PySem.W.clsIn K C).isSome && PySem.W.typeIn K (.ref C) == some (.type "type")) = true then PySem.W.subIn K t (.ref C) else none) = some v
    rw [if_pos e2]; exact su

set_option maxHeartbeats 4000000 in
theorem all_mk {l : PySem.W.OpenLaw} {w : World} {K : PySem.W.Frag} {h : Heap} {mg : Str → Option Value} {fa : Addr} {CM CX CB CD CN fN cdaN ccN NN CW fMI fShows fNum fWord fCount fRange fNames fIsDeal fTold fAreB fLoads fNeeds fAll fWithin fNearest fMoves fCheckD fRoom fAsked fOnce fLeast fNumber fTake fPick fLLoads fLDeal fLBounds fRows fBar fSpoilt fToldL fRefd fLaw ccRefd PPRefd ccLaw PPLaw : Addr}
    {nmN qN : Str} {bsN : List Value} {snN : List Str} {subN : List Value} {abN : Bool} {colN : Option Bool} {ddN odN anN cddN cldN : Option Addr} {j0N j1N j2N j3N j5N : Option Value} {ocN dcN pmN ctN cclN clN : Value} {slN ccsN cslN : Array (Option Value)} {vsN : Array Value} {fileN : Str} {tfN : Tok} {b1N : Addr}
    {odW : Option Addr} {itsW : Array Value} {nW : Nat} {slW : Array (Option Value)} {tW1 tW2 : Tok}
    {ocMI kVMI dcMI pmMI cdMI ctMI : Value} {odMI anMI : Option Addr} {slMI : Array (Option Value)}
    {ocShows kVShows dcShows pmShows cdShows ctShows : Value} {odShows anShows : Option Addr} {slShows : Array (Option Value)}
    {ocNum kVNum dcNum pmNum cdNum ctNum : Value} {odNum anNum : Option Addr} {slNum : Array (Option Value)}
    {ocWord kVWord dcWord pmWord cdWord ctWord : Value} {odWord anWord : Option Addr} {slWord : Array (Option Value)}
    {ocCount kVCount dcCount pmCount cdCount ctCount : Value} {odCount anCount : Option Addr} {slCount : Array (Option Value)}
    {ocRange kVRange dcRange pmRange cdRange ctRange : Value} {odRange anRange : Option Addr} {slRange : Array (Option Value)}
    {ocNames kVNames dcNames pmNames cdNames ctNames : Value} {odNames anNames : Option Addr} {slNames : Array (Option Value)}
    {ocIsDeal kVIsDeal dcIsDeal pmIsDeal cdIsDeal ctIsDeal : Value} {odIsDeal anIsDeal : Option Addr} {slIsDeal : Array (Option Value)}
    {ocTold kVTold dcTold pmTold cdTold ctTold : Value} {odTold anTold : Option Addr} {slTold : Array (Option Value)}
    {ocAreB kVAreB dcAreB pmAreB cdAreB ctAreB : Value} {odAreB anAreB : Option Addr} {slAreB : Array (Option Value)}
    {ocLoads kVLoads dcLoads pmLoads cdLoads ctLoads : Value} {odLoads anLoads : Option Addr} {slLoads : Array (Option Value)}
    {ocNeeds kVNeeds dcNeeds pmNeeds cdNeeds ctNeeds : Value} {odNeeds anNeeds : Option Addr} {slNeeds : Array (Option Value)}
    {ocAll kVAll dcAll pmAll cdAll ctAll : Value} {odAll anAll : Option Addr} {slAll : Array (Option Value)}
    {ocWithin kVWithin dcWithin pmWithin cdWithin ctWithin : Value} {odWithin anWithin : Option Addr} {slWithin : Array (Option Value)}
    {ocNearest kVNearest dcNearest pmNearest cdNearest ctNearest : Value} {odNearest anNearest : Option Addr} {slNearest : Array (Option Value)}
    {ocMoves kVMoves dcMoves pmMoves cdMoves ctMoves : Value} {odMoves anMoves : Option Addr} {slMoves : Array (Option Value)}
    {ocCheckD kVCheckD dcCheckD pmCheckD cdCheckD ctCheckD : Value} {odCheckD anCheckD : Option Addr} {slCheckD : Array (Option Value)}
    {ocRoom kVRoom dcRoom pmRoom cdRoom ctRoom : Value} {odRoom anRoom : Option Addr} {slRoom : Array (Option Value)}
    {ocAsked kVAsked dcAsked pmAsked cdAsked ctAsked : Value} {odAsked anAsked : Option Addr} {slAsked : Array (Option Value)}
    {ocOnce kVOnce dcOnce pmOnce cdOnce ctOnce : Value} {odOnce anOnce : Option Addr} {slOnce : Array (Option Value)}
    {ocLeast kVLeast dcLeast pmLeast cdLeast ctLeast : Value} {odLeast anLeast : Option Addr} {slLeast : Array (Option Value)}
    {ocNumber kVNumber dcNumber pmNumber cdNumber ctNumber : Value} {odNumber anNumber : Option Addr} {slNumber : Array (Option Value)}
    {ocTake kVTake dcTake pmTake cdTake ctTake : Value} {odTake anTake : Option Addr} {slTake : Array (Option Value)}
    {ocPick kVPick dcPick pmPick cdPick ctPick : Value} {odPick anPick : Option Addr} {slPick : Array (Option Value)}
    {ocLLoads kVLLoads dcLLoads pmLLoads cdLLoads ctLLoads : Value} {odLLoads anLLoads : Option Addr} {slLLoads : Array (Option Value)}
    {ocLDeal kVLDeal dcLDeal pmLDeal cdLDeal ctLDeal : Value} {odLDeal anLDeal : Option Addr} {slLDeal : Array (Option Value)}
    {ocLBounds kVLBounds dcLBounds pmLBounds cdLBounds ctLBounds : Value} {odLBounds anLBounds : Option Addr} {slLBounds : Array (Option Value)}
    {ocRows kVRows dcRows pmRows cdRows ctRows : Value} {odRows anRows : Option Addr} {slRows : Array (Option Value)}
    {ocBar kVBar dcBar pmBar cdBar ctBar : Value} {odBar anBar : Option Addr} {slBar : Array (Option Value)}
    {ocSpoilt kVSpoilt dcSpoilt pmSpoilt cdSpoilt ctSpoilt : Value} {odSpoilt anSpoilt : Option Addr} {slSpoilt : Array (Option Value)}
    {ocToldL kVToldL dcToldL pmToldL cdToldL ctToldL : Value} {odToldL anToldL : Option Addr} {slToldL : Array (Option Value)}
    {ocRefd kVRefd dcRefd pmRefd  ctRefd : Value} {odRefd anRefd : Option Addr} {slRefd : Array (Option Value)}
    {ocLaw kVLaw dcLaw pmLaw  ctLaw : Value} {odLaw anLaw : Option Addr} {slLaw : Array (Option Value)}
    {eRefd : Value} {ddRefd : Option Addr} {vsRefd : Array Value} {csRefd : Array (Option Value)}
    {eLaw : Value} {ddLaw : Option Addr} {vsLaw : Array Value} {csLaw : Array (Option Value)}
    {tMOST_LANES : Nat}
    {tMOST_READERS : Nat}
    (X : K.In h) (G : h.Ns mainGlobals mg) (hfa : mg "law" = some (.ref fa))
    (gM : PySem.W.nsIn K mainGlobals "Moves" = some (some (.ref CM)))
    (pgM : PySem.W.plainGet K CM Str.empty = true)
    (hdM : PySem.W.hasDictIn K CM = true)
    (poM : PySem.W.plainOver K CM = true)
    (saM : PySem.W.findIn K (.ref CM) "__setattr__" = some (some (.builtin "object.__setattr__")))
    (mkM : PySem.W.makesIn K CM = true)
    (kcM : PySem.W.keepIn K (.ref CM) = true)
    (nMmoves : PySem.W.findIn K (.ref CM) "moves" = some none)
    (nMway : PySem.W.findIn K (.ref CM) "way" = some none)
    (nMreaders : PySem.W.findIn K (.ref CM) "readers" = some none)
    (hnO : PySem.W.specialIn K (.builtin "object.__class__") "__get__" = some (some (.builtin "getset_descriptor.__get__")))
    (htO : PySem.W.takesIn K (.builtin "object.__class__") = some true)
    (gX : PySem.W.nsIn K mainGlobals "BrokerError" = some (some (.ref CX)))
    (hdX : PySem.W.hasDictIn K CX = true)
    (tX : PySem.W.typeIn K (.ref CX) = some (.type "type"))
    (gB : PySem.W.nsIn K mainGlobals "BadDeal" = some (some (.ref CB)))
    (xB : PySem.W.excIn K CB [.type "ValueError", .type "Exception", .type "BaseException", .type "object"] "ValueError.__new__" = true)
    (kcB : PySem.W.keepIn K (.ref CB) = true)
    (bB : PySem.W.subIn K (.ref CB) (.type "BaseException") = some true)
    (tB : PySem.W.typeIn K (.ref CB) = some (.type "type"))
    (gaB : PySem.W.findIn K (.ref CB) "__getattribute__" = some (some (.builtin "BaseException.__getattribute__")))
    (ggB : PySem.W.findIn K (.ref CB) "__getattr__" = some none)
    (hdB : PySem.W.hasDictIn K CB = true)
    (haB : PySem.W.findIn K (.ref CB) "__class__" = some (some (.builtin "object.__class__")))
    (obB : PySem.W.mroIn K CB (.type "object") = some true)
    (sB : PySem.W.subIn K (.ref CB) (.ref CB) = some true)
    (sXB : PySem.W.subIn K (.ref CB) (.ref CX) = some true)
    (gD : PySem.W.nsIn K mainGlobals "BadBounds" = some (some (.ref CD)))
    (xD : PySem.W.excIn K CD [.type "ValueError", .type "Exception", .type "BaseException", .type "object"] "ValueError.__new__" = true)
    (kcD : PySem.W.keepIn K (.ref CD) = true)
    (bD : PySem.W.subIn K (.ref CD) (.type "BaseException") = some true)
    (tD : PySem.W.typeIn K (.ref CD) = some (.type "type"))
    (gaD : PySem.W.findIn K (.ref CD) "__getattribute__" = some (some (.builtin "BaseException.__getattribute__")))
    (ggD : PySem.W.findIn K (.ref CD) "__getattr__" = some none)
    (hdD : PySem.W.hasDictIn K CD = true)
    (haD : PySem.W.findIn K (.ref CD) "__class__" = some (some (.builtin "object.__class__")))
    (obD : PySem.W.mroIn K CD (.type "object") = some true)
    (sD : PySem.W.subIn K (.ref CD) (.ref CD) = some true)
    (sXD : PySem.W.subIn K (.ref CD) (.ref CX) = some true)
    (gN : PySem.W.nsIn K mainGlobals "NoDeal" = some (some (.ref CN)))
    (xN : K.lookup CN = some (excClassObj nmN qN CN NN bsN [.ref b1N, .type "ValueError", .type "Exception", .type "BaseException", .type "object"] true snN subN abN colN ddN j0N j1N j2N j3N j5N "ValueError.__new__"))
    (saN : PySem.W.findIn K (.ref CN) "__setattr__" = some (some (.builtin "object.__setattr__")))
    (gaN : PySem.W.findIn K (.ref CN) "__getattribute__" = some (some (.builtin "BaseException.__getattribute__")))
    (ggN : PySem.W.findIn K (.ref CN) "__getattr__" = some none)
    (noN : PySem.W.findIn K (.ref CN) "tick" = some none)
    (aN : PySem.W.findIn K (.ref CN) "__init__" = some (some (.ref fN)))
    (tN : PySem.W.typeIn K (.ref fN) = some (.type "function"))
    (kcN : PySem.W.keepIn K (.ref CN) = true)
    (eN : PySem.W.subIn K (.ref CN) (.type "BaseException") = some true)
    (vN : PySem.W.subIn K (.ref CN) (.type "ValueError") = some true)
    (yN : PySem.W.typeIn K (.ref CN) = some (.type "type"))
    (hdN : PySem.W.hasDictIn K CN = true)
    (iN : PySem.W.isClsIn K CN = true)
    (sN : PySem.W.subIn K (.ref CN) (.ref CN) = some true)
    (suN : PySem.W.ks_superIn K CN CN "__init__" = some (some (.builtin "ValueError.__init__")))
    (exN : PySem.W.excInitIn K CN PySem.HandSPX.veTail "ValueError.__new__" = true)
    (seN : PySem.W.mroIn K CN (.ref CN) = some true)
    (lN : K.lookup fN = some ⟨ocN, odN, .func (PySem.W.ksFn "__init__" "NoDeal.__init__" (PySem.TkX.args ⟨18, 17, 18, 21⟩ ⟨18, 23, 18, 27⟩) (PySem.TkX.body "no deal at tick " ⟨⟨19, 27, 19, 43⟩, ⟨19, 44, 19, 48⟩, ⟨19, 43, 19, 49⟩, ⟨19, 25, 19, 50⟩, ⟨19, 8, 19, 13⟩, ⟨19, 8, 19, 15⟩, ⟨19, 8, 19, 24⟩, ⟨19, 8, 19, 51⟩, ⟨19, 8, 19, 51⟩, ⟨20, 8, 20, 12⟩, ⟨20, 8, 20, 17⟩, ⟨20, 20, 20, 24⟩, ⟨20, 8, 20, 24⟩⟩) PySem.TkX.scope .none .none dcN pmN anN (.ref cdaN) ctN ccN), slN⟩)
    (cN : PySem.W.codeIn K (.ref cdaN) "NoDeal.__init__" = true)
    (dN : K.lookup cdaN = some ⟨cclN, cddN, .fields vsN, ccsN⟩)
    (vfN : vsN[2]? = some (.str fileN tfN))
    (pfN : ((l.prog.main.file : Str) == fileN) = true)
    (ceN : K.lookup ccN = some ⟨clN, cldN, .cell (some (.ref CN)), cslN⟩)
    (sBN : PySem.W.subIn K (.ref CB) (.ref CN) = some false)
    (sDN : PySem.W.subIn K (.ref CD) (.ref CN) = some false)
    (sDB : PySem.W.subIn K (.ref CD) (.ref CB) = some false)
    (gW : PySem.W.nsIn K mainGlobals "WAYS" = some (some (.ref CW)))
    (lW : K.lookup CW = some ⟨.type "tuple", odW, .seq itsW nW, slW⟩)
    (vW : itsW.toList = [.str "leaving" tW1, .str "coming" tW2])
    (aMI : PySem.W.findIn K (.ref CM) "__init__" = some (some (.ref fMI)))
    (iMI : PySem.W.isFn K (.ref fMI) = true)
    (lMI : K.lookup fMI = some ⟨ocMI, odMI, .func (PySem.W.fnOf "__init__" "Moves.__init__" (defArgs sMI) (defBody sMI) (defScope sMI) .none kVMI dcMI pmMI anMI cdMI ctMI), slMI⟩)
    (cMI : PySem.W.codeIn K cdMI "Moves.__init__" = true)
    (kMI : PySem.W.keepIn K (.ref fMI) = true)
    (aShows : PySem.W.findIn K (.ref CM) "shows" = some (some (.ref fShows)))
    (iShows : PySem.W.isFn K (.ref fShows) = true)
    (lShows : K.lookup fShows = some ⟨ocShows, odShows, .func (PySem.W.fnOf "shows" "Moves.shows" (defArgs sShows) (defBody sShows) (defScope sShows) .none kVShows dcShows pmShows anShows cdShows ctShows), slShows⟩)
    (cShows : PySem.W.codeIn K cdShows "Moves.shows" = true)
    (kShows : PySem.W.keepIn K (.ref fShows) = true)
    (aNum : PySem.W.nsIn K mainGlobals "is_number" = some (some (.ref fNum)))
    (lNum : K.lookup fNum = some ⟨ocNum, odNum, .func (PySem.W.fnOf "is_number" "is_number" (defArgs sNum) (defBody sNum) (defScope sNum) .none kVNum dcNum pmNum anNum cdNum ctNum), slNum⟩)
    (cNum : PySem.W.codeIn K cdNum "is_number" = true)
    (kNum : PySem.W.keepIn K (.ref fNum) = true)
    (aWord : PySem.W.nsIn K mainGlobals "is_word" = some (some (.ref fWord)))
    (lWord : K.lookup fWord = some ⟨ocWord, odWord, .func (PySem.W.fnOf "is_word" "is_word" (defArgs sWord) (defBody sWord) (defScope sWord) .none kVWord dcWord pmWord anWord cdWord ctWord), slWord⟩)
    (cWord : PySem.W.codeIn K cdWord "is_word" = true)
    (kWord : PySem.W.keepIn K (.ref fWord) = true)
    (aCount : PySem.W.nsIn K mainGlobals "is_count" = some (some (.ref fCount)))
    (lCount : K.lookup fCount = some ⟨ocCount, odCount, .func (PySem.W.fnOf "is_count" "is_count" (defArgs sCount) (defBody sCount) (defScope sCount) .none kVCount dcCount pmCount anCount cdCount ctCount), slCount⟩)
    (cCount : PySem.W.codeIn K cdCount "is_count" = true)
    (kCount : PySem.W.keepIn K (.ref fCount) = true)
    (aRange : PySem.W.nsIn K mainGlobals "is_range" = some (some (.ref fRange)))
    (lRange : K.lookup fRange = some ⟨ocRange, odRange, .func (PySem.W.fnOf "is_range" "is_range" (defArgs sRange) (defBody sRange) (defScope sRange) .none kVRange dcRange pmRange anRange cdRange ctRange), slRange⟩)
    (cRange : PySem.W.codeIn K cdRange "is_range" = true)
    (kRange : PySem.W.keepIn K (.ref fRange) = true)
    (aNames : PySem.W.nsIn K mainGlobals "are_names" = some (some (.ref fNames)))
    (lNames : K.lookup fNames = some ⟨ocNames, odNames, .func (PySem.W.fnOf "are_names" "are_names" (defArgs sNames) (defBody sNames) (defScope sNames) .none kVNames dcNames pmNames anNames cdNames ctNames), slNames⟩)
    (cNames : PySem.W.codeIn K cdNames "are_names" = true)
    (kNames : PySem.W.keepIn K (.ref fNames) = true)
    (aIsDeal : PySem.W.nsIn K mainGlobals "is_deal" = some (some (.ref fIsDeal)))
    (lIsDeal : K.lookup fIsDeal = some ⟨ocIsDeal, odIsDeal, .func (PySem.W.fnOf "is_deal" "is_deal" (defArgs sIsDeal) (defBody sIsDeal) (defScope sIsDeal) .none kVIsDeal dcIsDeal pmIsDeal anIsDeal cdIsDeal ctIsDeal), slIsDeal⟩)
    (cIsDeal : PySem.W.codeIn K cdIsDeal "is_deal" = true)
    (kIsDeal : PySem.W.keepIn K (.ref fIsDeal) = true)
    (aTold : PySem.W.nsIn K mainGlobals "are_readers_told" = some (some (.ref fTold)))
    (lTold : K.lookup fTold = some ⟨ocTold, odTold, .func (PySem.W.fnOf "are_readers_told" "are_readers_told" (defArgs sTold) (defBody sTold) (defScope sTold) .none kVTold dcTold pmTold anTold cdTold ctTold), slTold⟩)
    (cTold : PySem.W.codeIn K cdTold "are_readers_told" = true)
    (kTold : PySem.W.keepIn K (.ref fTold) = true)
    (aAreB : PySem.W.nsIn K mainGlobals "are_bounds" = some (some (.ref fAreB)))
    (lAreB : K.lookup fAreB = some ⟨ocAreB, odAreB, .func (PySem.W.fnOf "are_bounds" "are_bounds" (defArgs sBounds) (defBody sBounds) (defScope sBounds) .none kVAreB dcAreB pmAreB anAreB cdAreB ctAreB), slAreB⟩)
    (cAreB : PySem.W.codeIn K cdAreB "are_bounds" = true)
    (kAreB : PySem.W.keepIn K (.ref fAreB) = true)
    (aLoads : PySem.W.nsIn K mainGlobals "loads_of" = some (some (.ref fLoads)))
    (lLoads : K.lookup fLoads = some ⟨ocLoads, odLoads, .func (PySem.W.fnOf "loads_of" "loads_of" (defArgs sLoads) (defBody sLoads) (defScope sLoads) .none kVLoads dcLoads pmLoads anLoads cdLoads ctLoads), slLoads⟩)
    (cLoads : PySem.W.codeIn K cdLoads "loads_of" = true)
    (kLoads : PySem.W.keepIn K (.ref fLoads) = true)
    (aNeeds : PySem.W.nsIn K mainGlobals "needs_of" = some (some (.ref fNeeds)))
    (lNeeds : K.lookup fNeeds = some ⟨ocNeeds, odNeeds, .func (PySem.W.fnOf "needs_of" "needs_of" (defArgs sNeeds) (defBody sNeeds) (defScope sNeeds) .none kVNeeds dcNeeds pmNeeds anNeeds cdNeeds ctNeeds), slNeeds⟩)
    (cNeeds : PySem.W.codeIn K cdNeeds "needs_of" = true)
    (kNeeds : PySem.W.keepIn K (.ref fNeeds) = true)
    (aAll : PySem.W.nsIn K mainGlobals "all_loads" = some (some (.ref fAll)))
    (lAll : K.lookup fAll = some ⟨ocAll, odAll, .func (PySem.W.fnOf "all_loads" "all_loads" (defArgs sAll) (defBody sAll) (defScope sAll) .none kVAll dcAll pmAll anAll cdAll ctAll), slAll⟩)
    (cAll : PySem.W.codeIn K cdAll "all_loads" = true)
    (kAll : PySem.W.keepIn K (.ref fAll) = true)
    (aWithin : PySem.W.nsIn K mainGlobals "is_within" = some (some (.ref fWithin)))
    (lWithin : K.lookup fWithin = some ⟨ocWithin, odWithin, .func (PySem.W.fnOf "is_within" "is_within" (defArgs sWithin) (defBody sWithin) (defScope sWithin) .none kVWithin dcWithin pmWithin anWithin cdWithin ctWithin), slWithin⟩)
    (cWithin : PySem.W.codeIn K cdWithin "is_within" = true)
    (kWithin : PySem.W.keepIn K (.ref fWithin) = true)
    (aNearest : PySem.W.nsIn K mainGlobals "nearest_loads" = some (some (.ref fNearest)))
    (lNearest : K.lookup fNearest = some ⟨ocNearest, odNearest, .func (PySem.W.fnOf "nearest_loads" "nearest_loads" (defArgs sNearest) (defBody sNearest) (defScope sNearest) .none kVNearest dcNearest pmNearest anNearest cdNearest ctNearest), slNearest⟩)
    (cNearest : PySem.W.codeIn K cdNearest "nearest_loads" = true)
    (kNearest : PySem.W.keepIn K (.ref fNearest) = true)
    (aMoves : PySem.W.nsIn K mainGlobals "moves_between" = some (some (.ref fMoves)))
    (lMoves : K.lookup fMoves = some ⟨ocMoves, odMoves, .func (PySem.W.fnOf "moves_between" "moves_between" (defArgs sMoves) (defBody sMoves) (defScope sMoves) .none kVMoves dcMoves pmMoves anMoves cdMoves ctMoves), slMoves⟩)
    (cMoves : PySem.W.codeIn K cdMoves "moves_between" = true)
    (kMoves : PySem.W.keepIn K (.ref fMoves) = true)
    (aCheckD : PySem.W.nsIn K mainGlobals "check_deal" = some (some (.ref fCheckD)))
    (lCheckD : K.lookup fCheckD = some ⟨ocCheckD, odCheckD, .func (PySem.W.fnOf "check_deal" "check_deal" (defArgs sCheckD) (defBody sCheckD) (defScope sCheckD) .none kVCheckD dcCheckD pmCheckD anCheckD cdCheckD ctCheckD), slCheckD⟩)
    (cCheckD : PySem.W.codeIn K cdCheckD "check_deal" = true)
    (kCheckD : PySem.W.keepIn K (.ref fCheckD) = true)
    (aRoom : PySem.W.nsIn K mainGlobals "check_room" = some (some (.ref fRoom)))
    (lRoom : K.lookup fRoom = some ⟨ocRoom, odRoom, .func (PySem.W.fnOf "check_room" "check_room" (defArgs sRoom) (defBody sRoom) (defScope sRoom) .none kVRoom dcRoom pmRoom anRoom cdRoom ctRoom), slRoom⟩)
    (cRoom : PySem.W.codeIn K cdRoom "check_room" = true)
    (kRoom : PySem.W.keepIn K (.ref fRoom) = true)
    (aAsked : PySem.W.nsIn K mainGlobals "check_asked" = some (some (.ref fAsked)))
    (lAsked : K.lookup fAsked = some ⟨ocAsked, odAsked, .func (PySem.W.fnOf "check_asked" "check_asked" (defArgs sAskedD) (defBody sAskedD) (defScope sAskedD) .none kVAsked dcAsked pmAsked anAsked cdAsked ctAsked), slAsked⟩)
    (cAsked : PySem.W.codeIn K cdAsked "check_asked" = true)
    (kAsked : PySem.W.keepIn K (.ref fAsked) = true)
    (aOnce : PySem.W.nsIn K mainGlobals "moved_once" = some (some (.ref fOnce)))
    (lOnce : K.lookup fOnce = some ⟨ocOnce, odOnce, .func (PySem.W.fnOf "moved_once" "moved_once" (defArgs sOnce) (defBody sOnce) (defScope sOnce) .none kVOnce dcOnce pmOnce anOnce cdOnce ctOnce), slOnce⟩)
    (cOnce : PySem.W.codeIn K cdOnce "moved_once" = true)
    (kOnce : PySem.W.keepIn K (.ref fOnce) = true)
    (aLeast : PySem.W.nsIn K mainGlobals "least_moves" = some (some (.ref fLeast)))
    (lLeast : K.lookup fLeast = some ⟨ocLeast, odLeast, .func (PySem.W.fnOf "least_moves" "least_moves" (defArgs sLeast) (defBody sLeast) (defScope sLeast) .none kVLeast dcLeast pmLeast anLeast cdLeast ctLeast), slLeast⟩)
    (cLeast : PySem.W.codeIn K cdLeast "least_moves" = true)
    (kLeast : PySem.W.keepIn K (.ref fLeast) = true)
    (aNumber : PySem.W.nsIn K mainGlobals "_law_number" = some (some (.ref fNumber)))
    (lNumber : K.lookup fNumber = some ⟨ocNumber, odNumber, .func (PySem.W.fnOf "_law_number" "_law_number" (defArgs sNumber) (defBody sNumber) (defScope sNumber) .none kVNumber dcNumber pmNumber anNumber cdNumber ctNumber), slNumber⟩)
    (cNumber : PySem.W.codeIn K cdNumber "_law_number" = true)
    (kNumber : PySem.W.keepIn K (.ref fNumber) = true)
    (aTake : PySem.W.nsIn K mainGlobals "_law_take" = some (some (.ref fTake)))
    (lTake : K.lookup fTake = some ⟨ocTake, odTake, .func (PySem.W.fnOf "_law_take" "_law_take" (defArgs sTake) (defBody sTake) (defScope sTake) .none kVTake dcTake pmTake anTake cdTake ctTake), slTake⟩)
    (cTake : PySem.W.codeIn K cdTake "_law_take" = true)
    (kTake : PySem.W.keepIn K (.ref fTake) = true)
    (aPick : PySem.W.nsIn K mainGlobals "_law_pick" = some (some (.ref fPick)))
    (lPick : K.lookup fPick = some ⟨ocPick, odPick, .func (PySem.W.fnOf "_law_pick" "_law_pick" (defArgs sPick) (defBody sPick) (defScope sPick) .none kVPick dcPick pmPick anPick cdPick ctPick), slPick⟩)
    (cPick : PySem.W.codeIn K cdPick "_law_pick" = true)
    (kPick : PySem.W.keepIn K (.ref fPick) = true)
    (aLLoads : PySem.W.nsIn K mainGlobals "_law_loads" = some (some (.ref fLLoads)))
    (lLLoads : K.lookup fLLoads = some ⟨ocLLoads, odLLoads, .func (PySem.W.fnOf "_law_loads" "_law_loads" (defArgs sLLoads) (defBody sLLoads) (defScope sLLoads) .none kVLLoads dcLLoads pmLLoads anLLoads cdLLoads ctLLoads), slLLoads⟩)
    (cLLoads : PySem.W.codeIn K cdLLoads "_law_loads" = true)
    (kLLoads : PySem.W.keepIn K (.ref fLLoads) = true)
    (aLDeal : PySem.W.nsIn K mainGlobals "_law_deal" = some (some (.ref fLDeal)))
    (lLDeal : K.lookup fLDeal = some ⟨ocLDeal, odLDeal, .func (PySem.W.fnOf "_law_deal" "_law_deal" (defArgs sLDeal) (defBody sLDeal) (defScope sLDeal) .none kVLDeal dcLDeal pmLDeal anLDeal cdLDeal ctLDeal), slLDeal⟩)
    (cLDeal : PySem.W.codeIn K cdLDeal "_law_deal" = true)
    (kLDeal : PySem.W.keepIn K (.ref fLDeal) = true)
    (aLBounds : PySem.W.nsIn K mainGlobals "_law_bounds" = some (some (.ref fLBounds)))
    (lLBounds : K.lookup fLBounds = some ⟨ocLBounds, odLBounds, .func (PySem.W.fnOf "_law_bounds" "_law_bounds" (defArgs sLBounds) (defBody sLBounds) (defScope sLBounds) .none kVLBounds dcLBounds pmLBounds anLBounds cdLBounds ctLBounds), slLBounds⟩)
    (cLBounds : PySem.W.codeIn K cdLBounds "_law_bounds" = true)
    (kLBounds : PySem.W.keepIn K (.ref fLBounds) = true)
    (aRows : PySem.W.nsIn K mainGlobals "_law_rows" = some (some (.ref fRows)))
    (lRows : K.lookup fRows = some ⟨ocRows, odRows, .func (PySem.W.fnOf "_law_rows" "_law_rows" (defArgs sRows) (defBody sRows) (defScope sRows) .none kVRows dcRows pmRows anRows cdRows ctRows), slRows⟩)
    (cRows : PySem.W.codeIn K cdRows "_law_rows" = true)
    (kRows : PySem.W.keepIn K (.ref fRows) = true)
    (aBar : PySem.W.nsIn K mainGlobals "_law_bar" = some (some (.ref fBar)))
    (lBar : K.lookup fBar = some ⟨ocBar, odBar, .func (PySem.W.fnOf "_law_bar" "_law_bar" (defArgs sBar) (defBody sBar) (defScope sBar) .none kVBar dcBar pmBar anBar cdBar ctBar), slBar⟩)
    (cBar : PySem.W.codeIn K cdBar "_law_bar" = true)
    (kBar : PySem.W.keepIn K (.ref fBar) = true)
    (aSpoilt : PySem.W.nsIn K mainGlobals "_law_spoilt" = some (some (.ref fSpoilt)))
    (lSpoilt : K.lookup fSpoilt = some ⟨ocSpoilt, odSpoilt, .func (PySem.W.fnOf "_law_spoilt" "_law_spoilt" (defArgs sSpoilt) (defBody sSpoilt) (defScope sSpoilt) .none kVSpoilt dcSpoilt pmSpoilt anSpoilt cdSpoilt ctSpoilt), slSpoilt⟩)
    (cSpoilt : PySem.W.codeIn K cdSpoilt "_law_spoilt" = true)
    (kSpoilt : PySem.W.keepIn K (.ref fSpoilt) = true)
    (aToldL : PySem.W.nsIn K mainGlobals "_law_told" = some (some (.ref fToldL)))
    (lToldL : K.lookup fToldL = some ⟨ocToldL, odToldL, .func (PySem.W.fnOf "_law_told" "_law_told" (defArgs sToldL) (defBody sToldL) (defScope sToldL) .none kVToldL dcToldL pmToldL anToldL cdToldL ctToldL), slToldL⟩)
    (cToldL : PySem.W.codeIn K cdToldL "_law_told" = true)
    (kToldL : PySem.W.keepIn K (.ref fToldL) = true)
    (aRefd : PySem.W.nsIn K mainGlobals "_law_refused" = some (some (.ref fRefd)))
    (lRefd : K.lookup fRefd = some ⟨ocRefd, odRefd, .func (PySem.W.fnOf "_law_refused" "_law_refused" (defArgs sRefdD) (defBody sRefdD) (defScope sRefdD) .none kVRefd dcRefd pmRefd anRefd (.ref ccRefd) ctRefd), slRefd⟩)
    (cRefd : PySem.W.codeIn K (.ref ccRefd) "_law_refused" = true)
    (kRefd : PySem.W.keepIn K (.ref fRefd) = true)
    (aLaw : PySem.W.nsIn K mainGlobals "law" = some (some (.ref fLaw)))
    (lLaw : K.lookup fLaw = some ⟨ocLaw, odLaw, .func (PySem.W.fnOf "law" "law" (defArgs sLaw) (defBody sLaw) (defScope sLaw) .none kVLaw dcLaw pmLaw anLaw (.ref ccLaw) ctLaw), slLaw⟩)
    (cLaw : PySem.W.codeIn K (.ref ccLaw) "law" = true)
    (kLaw : PySem.W.keepIn K (.ref fLaw) = true)
    (dRefd : K.lookup ccRefd = some ⟨eRefd, ddRefd, .fields vsRefd, csRefd⟩)
    (vRefd : vsRefd[11]? = some (.ref PPRefd))
    (hTabRefd : h.get? PPRefd = some { cls := .none, data := .fields #[] })
    (nTabRefd : K.lookup PPRefd = none)
    (hCodeRefd : PySem.W.CodeHd h ccRefd PPRefd)
    (dLaw : K.lookup ccLaw = some ⟨eLaw, ddLaw, .fields vsLaw, csLaw⟩)
    (vLaw : vsLaw[11]? = some (.ref PPLaw))
    (hTabLaw : h.get? PPLaw = some { cls := .none, data := .fields #[] })
    (nTabLaw : K.lookup PPLaw = none)
    (hCodeLaw : PySem.W.CodeHd h ccLaw PPLaw)
    (z_type : PySem.W.nsIn K mainGlobals "type" = some none)
    (z_int : PySem.W.nsIn K mainGlobals "int" = some none)
    (z_bool : PySem.W.nsIn K mainGlobals "bool" = some none)
    (z_len : PySem.W.nsIn K mainGlobals "len" = some none)
    (z_list : PySem.W.nsIn K mainGlobals "list" = some none)
    (z_tuple : PySem.W.nsIn K mainGlobals "tuple" = some none)
    (z_dict : PySem.W.nsIn K mainGlobals "dict" = some none)
    (z_str : PySem.W.nsIn K mainGlobals "str" = some none)
    (z_isinstance : PySem.W.nsIn K mainGlobals "isinstance" = some none)
    (z_all : PySem.W.nsIn K mainGlobals "all" = some none)
    (z_any : PySem.W.nsIn K mainGlobals "any" = some none)
    (z_abs : PySem.W.nsIn K mainGlobals "abs" = some none)
    (z_max : PySem.W.nsIn K mainGlobals "max" = some none)
    (z_min : PySem.W.nsIn K mainGlobals "min" = some none)
    (z_sum : PySem.W.nsIn K mainGlobals "sum" = some none)
    (z_range : PySem.W.nsIn K mainGlobals "range" = some none)
    (z_sorted : PySem.W.nsIn K mainGlobals "sorted" = some none)
    (z_set : PySem.W.nsIn K mainGlobals "set" = some none)
    (z_zip : PySem.W.nsIn K mainGlobals "zip" = some none)
    (z_super : PySem.W.nsIn K mainGlobals "super" = some none)
    (z_opq : PySem.W.nsIn K cStatics "thirdparty.any" = some none)
    (z_top : (l.prog.main.scope.names.lookup ("super" : Str)).isSome = false)
    (z_MOST_LANES : PySem.W.nsIn K mainGlobals "MOST_LANES" = some (some (.int 60 tMOST_LANES)))
    (z_MOST_READERS : PySem.W.nsIn K mainGlobals "MOST_READERS" = some (some (.int 12 tMOST_READERS))) :
    ∃ (fd : FuncData) (cc PP cl PL : Addr), (h.get? PP = some { cls := .none, data := .fields #[] } ∧ K.lookup PP = none ∧ PySem.W.CodeHd h cc PP) ∧ (h.get? PL = some { cls := .none, data := .fields #[] } ∧ K.lookup PL = none ∧ PySem.W.CodeHd h cl PL) ∧ (∀ (s : Shared) (u : Value), BindsTo s fd ⟨[u], []⟩ [("script", u)]) ∧ ∀ base : Heap, K.In base → base.Ns mainGlobals mg → TabB base mg cc PP → TabB base mg cl PL → FnOk l.prog w K mg base CX0 11 fa fd ["script"] (spLaw K PP PL) := by
  have e := hfa.symm.trans (PySem.W.mg_of X G aLaw)
  cases e
  have w_type := PySem.W.mg_none_of X G z_type
  have w_int := PySem.W.mg_none_of X G z_int
  have w_bool := PySem.W.mg_none_of X G z_bool
  have w_len := PySem.W.mg_none_of X G z_len
  have w_list := PySem.W.mg_none_of X G z_list
  have w_tuple := PySem.W.mg_none_of X G z_tuple
  have w_dict := PySem.W.mg_none_of X G z_dict
  have w_str := PySem.W.mg_none_of X G z_str
  have w_isinstance := PySem.W.mg_none_of X G z_isinstance
  have w_all := PySem.W.mg_none_of X G z_all
  have w_any := PySem.W.mg_none_of X G z_any
  have w_abs := PySem.W.mg_none_of X G z_abs
  have w_max := PySem.W.mg_none_of X G z_max
  have w_min := PySem.W.mg_none_of X G z_min
  have w_sum := PySem.W.mg_none_of X G z_sum
  have w_range := PySem.W.mg_none_of X G z_range
  have w_sorted := PySem.W.mg_none_of X G z_sorted
  have w_set := PySem.W.mg_none_of X G z_set
  have w_zip := PySem.W.mg_none_of X G z_zip
  have w_super := PySem.W.mg_none_of X G z_super
  have m_MOST_LANES := PySem.W.mg_of X G z_MOST_LANES
  have m_MOST_READERS := PySem.W.mg_of X G z_MOST_READERS
  have m_CM := PySem.W.mg_of X G gM
  have m_CB := PySem.W.mg_of X G gB
  have m_CD := PySem.W.mg_of X G gD
  have m_CN := PySem.W.mg_of X G gN
  have m_CX := PySem.W.mg_of X G gX
  have m_CW := PySem.W.mg_of X G gW
  have m_Num := PySem.W.mg_of X G aNum
  have m_Word := PySem.W.mg_of X G aWord
  have m_Count := PySem.W.mg_of X G aCount
  have m_Range := PySem.W.mg_of X G aRange
  have m_Names := PySem.W.mg_of X G aNames
  have m_IsDeal := PySem.W.mg_of X G aIsDeal
  have m_Told := PySem.W.mg_of X G aTold
  have m_AreB := PySem.W.mg_of X G aAreB
  have m_Loads := PySem.W.mg_of X G aLoads
  have m_Needs := PySem.W.mg_of X G aNeeds
  have m_All := PySem.W.mg_of X G aAll
  have m_Within := PySem.W.mg_of X G aWithin
  have m_Nearest := PySem.W.mg_of X G aNearest
  have m_Moves := PySem.W.mg_of X G aMoves
  have m_CheckD := PySem.W.mg_of X G aCheckD
  have m_Room := PySem.W.mg_of X G aRoom
  have m_Asked := PySem.W.mg_of X G aAsked
  have m_Once := PySem.W.mg_of X G aOnce
  have m_Least := PySem.W.mg_of X G aLeast
  have m_Number := PySem.W.mg_of X G aNumber
  have m_Take := PySem.W.mg_of X G aTake
  have m_Pick := PySem.W.mg_of X G aPick
  have m_LLoads := PySem.W.mg_of X G aLLoads
  have m_LDeal := PySem.W.mg_of X G aLDeal
  have m_LBounds := PySem.W.mg_of X G aLBounds
  have m_Rows := PySem.W.mg_of X G aRows
  have m_Bar := PySem.W.mg_of X G aBar
  have m_Spoilt := PySem.W.mg_of X G aSpoilt
  have m_ToldL := PySem.W.mg_of X G aToldL
  have m_Refd := PySem.W.mg_of X G aRefd
  have m_Law := PySem.W.mg_of X G aLaw
  have FMI := fun_mk (st := sMI) lMI cMI kMI
  have FShows := fun_mk (st := sShows) lShows cShows kShows
  have FNum := fun_mk (st := sNum) lNum cNum kNum
  have FWord := fun_mk (st := sWord) lWord cWord kWord
  have FCount := fun_mk (st := sCount) lCount cCount kCount
  have FRange := fun_mk (st := sRange) lRange cRange kRange
  have FNames := fun_mk (st := sNames) lNames cNames kNames
  have FIsDeal := fun_mk (st := sIsDeal) lIsDeal cIsDeal kIsDeal
  have FTold := fun_mk (st := sTold) lTold cTold kTold
  have FAreB := fun_mk (st := sBounds) lAreB cAreB kAreB
  have FLoads := fun_mk (st := sLoads) lLoads cLoads kLoads
  have FNeeds := fun_mk (st := sNeeds) lNeeds cNeeds kNeeds
  have FAll := fun_mk (st := sAll) lAll cAll kAll
  have FWithin := fun_mk (st := sWithin) lWithin cWithin kWithin
  have FNearest := fun_mk (st := sNearest) lNearest cNearest kNearest
  have FMoves := fun_mk (st := sMoves) lMoves cMoves kMoves
  have FCheckD := fun_mk (st := sCheckD) lCheckD cCheckD kCheckD
  have FRoom := fun_mk (st := sRoom) lRoom cRoom kRoom
  have FAsked := fun_mk (st := sAskedD) lAsked cAsked kAsked
  have FOnce := fun_mk (st := sOnce) lOnce cOnce kOnce
  have FLeast := fun_mk (st := sLeast) lLeast cLeast kLeast
  have FNumber := fun_mk (st := sNumber) lNumber cNumber kNumber
  have FTake := fun_mk (st := sTake) lTake cTake kTake
  have FPick := fun_mk (st := sPick) lPick cPick kPick
  have FLLoads := fun_mk (st := sLLoads) lLLoads cLLoads kLLoads
  have FLDeal := fun_mk (st := sLDeal) lLDeal cLDeal kLDeal
  have FLBounds := fun_mk (st := sLBounds) lLBounds cLBounds kLBounds
  have FRows := fun_mk (st := sRows) lRows cRows kRows
  have FBar := fun_mk (st := sBar) lBar cBar kBar
  have FSpoilt := fun_mk (st := sSpoilt) lSpoilt cSpoilt kSpoilt
  have FToldL := fun_mk (st := sToldL) lToldL cToldL kToldL
  have FRefd := fun_mk (st := sRefdD) lRefd cRefd kRefd
  have FLaw := fun_mk (st := sLaw) lLaw cLaw kLaw
  have bMI := FMI.binds (ps := ["self", "moves", "way", "readers"]) fun _ _ _ _ _ _ us hl => match us, hl with | [_, _, _, _], _ => rfl
  have bShows := FShows.binds (ps := ["self", "deal", "bounds"]) fun _ _ _ _ _ _ us hl => match us, hl with | [_, _, _], _ => rfl
  have bNum := FNum.binds (ps := ["value"]) fun _ _ _ _ _ _ us hl => match us, hl with | [_], _ => rfl
  have bWord := FWord.binds (ps := ["value"]) fun _ _ _ _ _ _ us hl => match us, hl with | [_], _ => rfl
  have bCount := FCount.binds (ps := ["value"]) fun _ _ _ _ _ _ us hl => match us, hl with | [_], _ => rfl
  have bRange := FRange.binds (ps := ["pair"]) fun _ _ _ _ _ _ us hl => match us, hl with | [_], _ => rfl
  have bNames := FNames.binds (ps := ["names"]) fun _ _ _ _ _ _ us hl => match us, hl with | [_], _ => rfl
  have bIsDeal := FIsDeal.binds (ps := ["deal"]) fun _ _ _ _ _ _ us hl => match us, hl with | [_], _ => rfl
  have bTold := FTold.binds (ps := ["told"]) fun _ _ _ _ _ _ us hl => match us, hl with | [_], _ => rfl
  have bAreB := FAreB.binds (ps := ["bounds"]) fun _ _ _ _ _ _ us hl => match us, hl with | [_], _ => rfl
  have bLoads := FLoads.binds (ps := ["deal"]) fun _ _ _ _ _ _ us hl => match us, hl with | [_], _ => rfl
  have bNeeds := FNeeds.binds (ps := ["loads", "bounds", "way"]) fun _ _ _ _ _ _ us hl => match us, hl with | [_, _, _], _ => rfl
  have bAll := FAll.binds (ps := ["deal", "bounds"]) fun _ _ _ _ _ _ us hl => match us, hl with | [_, _], _ => rfl
  have bWithin := FWithin.binds (ps := ["deal", "bounds"]) fun _ _ _ _ _ _ us hl => match us, hl with | [_, _], _ => rfl
  have bNearest := FNearest.binds (ps := ["loads", "bounds", "many"]) fun _ _ _ _ _ _ us hl => match us, hl with | [_, _, _], _ => rfl
  have bMoves := FMoves.binds (ps := ["deal", "loads"]) fun _ _ _ _ _ _ us hl => match us, hl with | [_, _], _ => rfl
  have bCheckD := FCheckD.binds (ps := ["deal"]) fun _ _ _ _ _ _ us hl => match us, hl with | [_], _ => rfl
  have bRoom := FRoom.binds (ps := ["bounds", "many", "tick"]) fun _ _ _ _ _ _ us hl => match us, hl with | [_, _, _], _ => rfl
  have bAsked := FAsked.binds (ps := ["deal", "bounds"]) fun _ _ _ _ _ _ us hl => match us, hl with | [_, _], _ => rfl
  have bOnce := FOnce.binds (ps := ["deal", "moves"]) fun _ _ _ _ _ _ us hl => match us, hl with | [_, _], _ => rfl
  have bLeast := FLeast.binds (ps := ["deal", "bounds"]) fun _ _ _ _ _ _ us hl => match us, hl with | [_, _], _ => rfl
  have bNumber := FNumber.binds (ps := ["script", "index"]) fun _ _ _ _ _ _ us hl => match us, hl with | [_, _], _ => rfl
  have bTake := FTake.binds (ps := ["draw", "many"]) fun _ _ _ _ _ _ us hl => match us, hl with | [_, _], _ => rfl
  have bPick := FPick.binds (ps := ["draw", "items"]) fun _ _ _ _ _ _ us hl => match us, hl with | [_, _], _ => rfl
  have bLLoads := FLLoads.binds (ps := ["deal", "readers"]) fun _ _ _ _ _ _ us hl => match us, hl with | [_, _], _ => rfl
  have bLDeal := FLDeal.binds (ps := ["draw", "readers", "many"]) fun _ _ _ _ _ _ us hl => match us, hl with | [_, _, _], _ => rfl
  have bLBounds := FLBounds.binds (ps := ["draw", "readers", "many"]) fun _ _ _ _ _ _ us hl => match us, hl with | [_, _, _], _ => rfl
  have bRows := FRows.binds (ps := ["limits", "many"]) fun _ _ _ _ _ _ us hl => match us, hl with | [_, _], _ => rfl
  have bBar := FBar.binds (ps := ["found", "readers", "names", "before", "limits"]) fun _ _ _ _ _ _ us hl => match us, hl with | [_, _, _, _, _], _ => rfl
  have bSpoilt := FSpoilt.binds (ps := ["found"]) fun _ _ _ _ _ _ us hl => match us, hl with | [_], _ => rfl
  have bToldL := FToldL.binds (ps := ["deed"]) fun _ _ _ _ _ _ us hl => match us, hl with | [_], _ => rfl
  have bRefd := FRefd.binds (ps := ["draw", "deal", "bounds"]) fun _ _ _ _ _ _ us hl => match us, hl with | [_, _, _], _ => rfl
  have clM : Cls K CM := ⟨pgM, hdM, poM, saM⟩
  have MkM : Mk K CM fMI := ⟨mkM, aMI, iMI, kcM⟩
  have ANum : At K mg "is_number" fNum := ⟨m_Num, kNum⟩
  have AWord : At K mg "is_word" fWord := ⟨m_Word, kWord⟩
  have ACount : At K mg "is_count" fCount := ⟨m_Count, kCount⟩
  have ARange : At K mg "is_range" fRange := ⟨m_Range, kRange⟩
  have ANames : At K mg "are_names" fNames := ⟨m_Names, kNames⟩
  have AIsDeal : At K mg "is_deal" fIsDeal := ⟨m_IsDeal, kIsDeal⟩
  have ATold : At K mg "are_readers_told" fTold := ⟨m_Told, kTold⟩
  have AAreB : At K mg "are_bounds" fAreB := ⟨m_AreB, kAreB⟩
  have ALoads : At K mg "loads_of" fLoads := ⟨m_Loads, kLoads⟩
  have ANeeds : At K mg "needs_of" fNeeds := ⟨m_Needs, kNeeds⟩
  have AAll : At K mg "all_loads" fAll := ⟨m_All, kAll⟩
  have AWithin : At K mg "is_within" fWithin := ⟨m_Within, kWithin⟩
  have ANearest : At K mg "nearest_loads" fNearest := ⟨m_Nearest, kNearest⟩
  have AMoves : At K mg "moves_between" fMoves := ⟨m_Moves, kMoves⟩
  have ACheckD : At K mg "check_deal" fCheckD := ⟨m_CheckD, kCheckD⟩
  have ARoom : At K mg "check_room" fRoom := ⟨m_Room, kRoom⟩
  have AAsked : At K mg "check_asked" fAsked := ⟨m_Asked, kAsked⟩
  have AOnce : At K mg "moved_once" fOnce := ⟨m_Once, kOnce⟩
  have ALeast : At K mg "least_moves" fLeast := ⟨m_Least, kLeast⟩
  have ANumber : At K mg "_law_number" fNumber := ⟨m_Number, kNumber⟩
  have ATake : At K mg "_law_take" fTake := ⟨m_Take, kTake⟩
  have APick : At K mg "_law_pick" fPick := ⟨m_Pick, kPick⟩
  have ALLoads : At K mg "_law_loads" fLLoads := ⟨m_LLoads, kLLoads⟩
  have ALDeal : At K mg "_law_deal" fLDeal := ⟨m_LDeal, kLDeal⟩
  have ALBounds : At K mg "_law_bounds" fLBounds := ⟨m_LBounds, kLBounds⟩
  have ARows : At K mg "_law_rows" fRows := ⟨m_Rows, kRows⟩
  have ABar : At K mg "_law_bar" fBar := ⟨m_Bar, kBar⟩
  have ASpoilt : At K mg "_law_spoilt" fSpoilt := ⟨m_Spoilt, kSpoilt⟩
  have AToldL : At K mg "_law_told" fToldL := ⟨m_ToldL, kToldL⟩
  have ARefd : At K mg "_law_refused" fRefd := ⟨m_Refd, kRefd⟩
  have FCRefd : FunC K "_law_refused" "_law_refused" sRefdD fRefd _ ccRefd := ⟨_, _, _, _, _, _, _, _, rfl, lRefd, cRefd⟩
  have FCLaw : FunC K "law" "law" sLaw _ _ ccLaw := ⟨_, _, _, _, _, _, _, _, rfl, lLaw, cLaw⟩
  have eB : ETxt K mg "BadDeal" CB CX := ⟨xB, m_CB, kcB, bB, tB, ⟨gaB, ggB, bB, hdB, haB, hnO, htO, obB⟩, PySem.W.exm_ref bB hdB tB sB, kit_sub hdX tX sXB (fun _ => rfl)⟩
  have eD : ETxt K mg "BadBounds" CD CX := ⟨xD, m_CD, kcD, bD, tD, ⟨gaD, ggD, bD, hdD, haD, hnO, htO, obD⟩, PySem.W.exm_ref bD hdD tD sD, kit_sub hdX tX sXD (fun _ => rfl)⟩
  have errN : PySem.TkX.Txt l.prog K mg "NoDeal" CN fN :=
    { gC := m_CN, cls := ⟨_, _, _, _, _, _, _, _, _, _, _, _, _, _, _, xN, rfl⟩, sa := saN, ga := gaN, gg := ggN, noN := noN, iC := aN, tC := tN, kC := kcN, exC := eN, veC := vN, tyC := yN, hdC := hdN, te := PySem.W.exm_ref eN hdN yN sN, sup := suN, opq := z_opq, exI := exN, self := seN, sups := w_super, top := z_top,
      fn := ⟨_, _, _, _, _, _, _, _, _, _, _, _, _, _, _, _, _, _, _, _, _, _, _, lN, cN, by decide, fun _ => ⟨_, rfl⟩, dN, vfN, pfN, ceN⟩ }
  refine ⟨PySem.W.fnOf "law" "law" (defArgs sLaw) (defBody sLaw) (defScope sLaw) .none kVLaw dcLaw pmLaw anLaw (.ref ccLaw) ctLaw, ccRefd, PPRefd, ccLaw, PPLaw, ⟨hTabRefd, nTabRefd, hCodeRefd⟩, ⟨hTabLaw, nTabLaw, hCodeLaw⟩, fun s v => .of_eq rfl, fun base _ _ TBR TBL => ?_⟩
  have T : TxD mg := { type := w_type, int := w_int, bool := w_bool, len := w_len, list := w_list, tuple := w_tuple, dict := w_dict, str := w_str, isinstance := w_isinstance, all := w_all, any := w_any, abs := w_abs, max := w_max, min := w_min, sum := w_sum, range := w_range, sorted := w_sorted, set := w_set, zip := w_zip, g_MOST_LANES := ⟨_, m_MOST_LANES⟩, g_MOST_READERS := ⟨_, m_MOST_READERS⟩ }
  have R : TxE l.prog K mg ⟨CM, CB, CD, CN, fN, CX, CW⟩ :=
    { e_BadDeal := eB, e_BadBounds := eD, e_NoDeal := errN, Moves := ⟨clM, m_CM⟩, n_moves := nMmoves, n_way := nMway, n_readers := nMreaders, g_WAYS := m_CW,
      waysK := ⟨_, itsW, nW, lW, rfl, rfl, by rw [← Array.length_toList, vW]; show 2 ≤ sizeLine; decide, by rw [vW]; exact .cons ⟨_, rfl⟩ (.cons ⟨_, rfl⟩ .nil)⟩,
      x_bad_no := PySem.W.exm_ref eN hdN yN sBN, x_bnd_no := PySem.W.exm_ref eN hdN yN sDN, x_bnd_bad := PySem.W.exm_ref bB hdB tB sDB, g_Broker := m_CX }
  have GNum := ok_num (P := l.prog) (w := w) (mg := mg) (base := base) FNum T
  have GWord := ok_word (P := l.prog) (w := w) (mg := mg) (base := base) FWord T
  have GCount := ok_count (P := l.prog) (w := w) (mg := mg) (base := base) FCount T ANum GNum bNum
  have GRange := ok_range (P := l.prog) (w := w) (mg := mg) (base := base) FRange T ACount GCount bCount
  have GNames := ok_names (P := l.prog) (w := w) (mg := mg) (base := base) FNames T AWord GWord bWord
  have GIsDeal := ok_isDeal (P := l.prog) (w := w) (mg := mg) (base := base) FIsDeal T ANames GNames bNames
  have GTold := ok_told (P := l.prog) (w := w) (mg := mg) (base := base) FTold T ANames GNames bNames
  have GAreB := ok_areBounds (P := l.prog) (w := w) (mg := mg) (base := base) FAreB T ATold GTold bTold ARange GRange bRange
  have GLoads := ok_loads (P := l.prog) (w := w) (mg := mg) (base := base) FLoads
  have GNeeds := ok_needs (P := l.prog) (w := w) (mg := mg) (base := base) FNeeds T
  have GNeedT := ok_needT GNeeds
  have GAll := ok_all (P := l.prog) (w := w) (mg := mg) (base := base) FAll ALoads GLoads bLoads
  have GWithin := ok_within (P := l.prog) (w := w) (mg := mg) (base := base) FWithin AAll GAll bAll
  have GNearest := ok_nearest (P := l.prog) (w := w) (mg := mg) (base := base) FNearest T
  have GMoves := ok_moves (P := l.prog) (w := w) (mg := mg) (base := base) FMoves T ALoads GLoads bLoads
  have GCheckD := ok_checkD (P := l.prog) (w := w) (mg := mg) (base := base) FCheckD R AIsDeal GIsDeal bIsDeal
  have GRoom := ok_room (P := l.prog) (w := w) (mg := mg) (base := base) FRoom T R
  have GAsked := ok_askedD (P := l.prog) (w := w) (mg := mg) (base := base) FAsked T R ACheckD GCheckD bCheckD AAreB GAreB bAreB ARoom GRoom bRoom
  have GOnce := ok_once (P := l.prog) (w := w) (mg := mg) (base := base) FOnce T
  have GMI := ok_mI (P := l.prog) (w := w) (mg := mg) (base := base) FMI T R
  have GShows := ok_shows (P := l.prog) (w := w) (mg := mg) (base := base) FShows T R AAsked GAsked bAsked AOnce GOnce bOnce AWithin GWithin bWithin AAll GAll bAll ANeeds GNeedT bNeeds
  have GLeast := ok_least (P := l.prog) (w := w) (mg := mg) (base := base) FLeast T R AAsked GAsked bAsked AAll GAll bAll AMoves GMoves bMoves ANearest GNearest bNearest ANeeds GNeedT bNeeds MkM GMI bMI
  have GNumber := ok_number (P := l.prog) (w := w) (mg := mg) (base := base) FNumber T
  have GTake := ok_take (P := l.prog) (w := w) (mg := mg) (base := base) FTake T ANumber GNumber bNumber
  have GPick := ok_pick (P := l.prog) (w := w) (mg := mg) (base := base) FPick T ATake GTake bTake
  have GLLoads := ok_lloads (P := l.prog) (w := w) (mg := mg) (base := base) FLLoads T
  have GLDeal := ok_ldeal (P := l.prog) (w := w) (mg := mg) (base := base) FLDeal T APick GPick bPick
  have GLBounds := ok_lbounds (P := l.prog) (w := w) (mg := mg) (base := base) FLBounds T ATake GTake bTake
  have GRows := ok_rows (P := l.prog) (w := w) (base := base) FRows T ARows bRows 5 (by decide)
  have GBar := ok_bar (P := l.prog) (w := w) (mg := mg) (base := base) FBar T R
  have GSpoilt := ok_spoilt (P := l.prog) (w := w) (mg := mg) (base := base) FSpoilt T R MkM GMI bMI
  have GRefd := ok_refdD (P := l.prog) (w := w) (mg := mg) (base := base) FCRefd T R TBR FToldL AToldL bToldL APick GPick bPick ALeast GLeast bLeast
  exact ok_law (P := l.prog) (w := w) (mg := mg) (base := base) FCLaw T R TBL ATake GTake bTake APick GPick bPick ALDeal GLDeal bLDeal ALBounds GLBounds bLBounds ALLoads GLLoads bLLoads ARows GRows bRows FToldL AToldL bToldL ALeast GLeast bLeast ⟨aShows, iShows, kShows⟩ GShows bShows ASpoilt GSpoilt bSpoilt MkM GMI bMI ABar GBar bBar ARefd GRefd bRefd
end KD
end
open PySem PySem.W PyProof.Rows in
set_option maxRecDepth 100000 in
set_option maxHeartbeats 0 in
theorem PySem.Challenge.cw_allbrokers_k50_whole_moves_holds : PySem.Challenge.rw_allbrokers_k50_whole_moves.Holds := by
  w_on; o_law; k_head; (case hw => w_witness2)
  k_fill
  refine KD.from_law (l := PySem.Challenge.rw_allbrokers_k50_whole_moves) rfl rfl (fun w h Y => PySem.W.km_in_of Y) ?F
  case F =>
    intro w mg fa h Y KX G hmg
    refine' KD.all_mk KX G hmg ?gM ?pgM ?hdM ?poM ?saM ?mkM ?kcM ?nMmoves ?nMway ?nMreaders ?hnO ?htO ?gX ?hdX ?tX ?gB ?xB ?kcB ?bB ?tB ?gaB ?ggB ?hdB ?haB ?obB ?sB ?sXB ?gD ?xD ?kcD ?bD ?tD ?gaD ?ggD ?hdD ?haD ?obD ?sD ?sXD ?gN ?xN ?saN ?gaN ?ggN ?noN ?aN ?tN ?kcN ?eN ?vN ?yN ?hdN ?iN ?sN ?suN ?exN ?seN ?lN ?cN ?dN ?vfN ?pfN ?ceN ?sBN ?sDN ?sDB ?gW ?lW ?vW ?aMI ?iMI ?lMI ?cMI ?kMI ?aShows ?iShows ?lShows ?cShows ?kShows ?aNum ?lNum ?cNum ?kNum ?aWord ?lWord ?cWord ?kWord ?aCount ?lCount ?cCount ?kCount ?aRange ?lRange ?cRange ?kRange ?aNames ?lNames ?cNames ?kNames ?aIsDeal ?lIsDeal ?cIsDeal ?kIsDeal ?aTold ?lTold ?cTold ?kTold ?aAreB ?lAreB ?cAreB ?kAreB ?aLoads ?lLoads ?cLoads ?kLoads ?aNeeds ?lNeeds ?cNeeds ?kNeeds ?aAll ?lAll ?cAll ?kAll ?aWithin ?lWithin ?cWithin ?kWithin ?aNearest ?lNearest ?cNearest ?kNearest ?aMoves ?lMoves ?cMoves ?kMoves ?aCheckD ?lCheckD ?cCheckD ?kCheckD ?aRoom ?lRoom ?cRoom ?kRoom ?aAsked ?lAsked ?cAsked ?kAsked ?aOnce ?lOnce ?cOnce ?kOnce ?aLeast ?lLeast ?cLeast ?kLeast ?aNumber ?lNumber ?cNumber ?kNumber ?aTake ?lTake ?cTake ?kTake ?aPick ?lPick ?cPick ?kPick ?aLLoads ?lLLoads ?cLLoads ?kLLoads ?aLDeal ?lLDeal ?cLDeal ?kLDeal ?aLBounds ?lLBounds ?cLBounds ?kLBounds ?aRows ?lRows ?cRows ?kRows ?aBar ?lBar ?cBar ?kBar ?aSpoilt ?lSpoilt ?cSpoilt ?kSpoilt ?aToldL ?lToldL ?cToldL ?kToldL ?aRefd ?lRefd ?cRefd ?kRefd ?aLaw ?lLaw ?cLaw ?kLaw ?dRefd ?vRefd ?hTabRefd ?nTabRefd ?hCodeRefd ?dLaw ?vLaw ?hTabLaw ?nTabLaw ?hCodeLaw ?z_type ?z_int ?z_bool ?z_len ?z_list ?z_tuple ?z_dict ?z_str ?z_isinstance ?z_all ?z_any ?z_abs ?z_max ?z_min ?z_sum ?z_range ?z_sorted ?z_set ?z_zip ?z_super ?z_opq ?z_top ?z_MOST_LANES ?z_MOST_READERS
    (case gM => k_is)
    (case pgM => k_is)
    (case hdM => k_is)
    (case poM => k_is)
    (case saM => k_is)
    (case mkM => k_is)
    (case kcM => k_is)
    (case nMmoves => k_is)
    (case nMway => k_is)
    (case nMreaders => k_is)
    (case hnO => k_is)
    (case htO => k_is)
    (case gX => k_is)
    (case hdX => first | k_is | kernel_rfl | rfl)
    (case tX => first | k_is | kernel_rfl | rfl)
    (case gB => k_is)
    (case xB => k_exc)
    (case kcB => k_is)
    (case bB => first | k_is | kernel_rfl | rfl)
    (case tB => first | k_is | kernel_rfl | rfl)
    (case gaB => first | k_is | kernel_rfl | rfl)
    (case ggB => first | k_is | kernel_rfl | rfl)
    (case hdB => first | k_is | kernel_rfl | rfl)
    (case haB => first | k_is | kernel_rfl | rfl)
    (case obB => first | k_is | kernel_rfl | rfl)
    (case sB => first | k_is | kernel_rfl | rfl)
    (case sXB => first | k_is | kernel_rfl | rfl)
    (case gD => k_is)
    (case xD => k_exc)
    (case kcD => k_is)
    (case bD => first | k_is | kernel_rfl | rfl)
    (case tD => first | k_is | kernel_rfl | rfl)
    (case gaD => first | k_is | kernel_rfl | rfl)
    (case ggD => first | k_is | kernel_rfl | rfl)
    (case hdD => first | k_is | kernel_rfl | rfl)
    (case haD => first | k_is | kernel_rfl | rfl)
    (case obD => first | k_is | kernel_rfl | rfl)
    (case sD => first | k_is | kernel_rfl | rfl)
    (case sXD => first | k_is | kernel_rfl | rfl)
    (case gN => k_is)
    (case xN => k_is)
    (case saN => k_is)
    (case gaN => k_is)
    (case ggN => k_is)
    (case noN => k_is)
    (case aN => k_is)
    (case tN => k_is)
    (case kcN => k_is)
    (case eN => k_is)
    (case vN => k_is)
    (case yN => k_is)
    (case hdN => k_is)
    (case iN => k_is)
    (case sN => first | rfl | k_is)
    (case suN => first | k_exc | kernel_rfl)
    (case exN => first | k_exc | kernel_rfl)
    (case seN => k_is)
    (case lN => k_is)
    (case cN => k_is)
    (case dN => k_is)
    (case vfN => rfl)
    (case pfN => rfl)
    (case ceN => k_is)
    (case sBN => first | k_is | kernel_rfl | rfl)
    (case sDN => first | k_is | kernel_rfl | rfl)
    (case sDB => first | k_is | kernel_rfl | rfl)
    (case gW => k_is)
    (case lW => k_is)
    (case vW => rfl)
    (case aMI => k_is)
    (case iMI => k_is)
    (case lMI => k_is)
    (case cMI => k_is)
    (case kMI => k_is)
    (case aShows => k_is)
    (case iShows => k_is)
    (case lShows => k_is)
    (case cShows => k_is)
    (case kShows => k_is)
    (case aNum => k_is)
    (case lNum => k_is)
    (case cNum => k_is)
    (case kNum => k_is)
    (case aWord => k_is)
    (case lWord => k_is)
    (case cWord => k_is)
    (case kWord => k_is)
    (case aCount => k_is)
    (case lCount => k_is)
    (case cCount => k_is)
    (case kCount => k_is)
    (case aRange => k_is)
    (case lRange => k_is)
    (case cRange => k_is)
    (case kRange => k_is)
    (case aNames => k_is)
    (case lNames => k_is)
    (case cNames => k_is)
    (case kNames => k_is)
    (case aIsDeal => k_is)
    (case lIsDeal => k_is)
    (case cIsDeal => k_is)
    (case kIsDeal => k_is)
    (case aTold => k_is)
    (case lTold => k_is)
    (case cTold => k_is)
    (case kTold => k_is)
    (case aAreB => k_is)
    (case lAreB => k_is)
    (case cAreB => k_is)
    (case kAreB => k_is)
    (case aLoads => k_is)
    (case lLoads => k_is)
    (case cLoads => k_is)
    (case kLoads => k_is)
    (case aNeeds => k_is)
    (case lNeeds => k_is)
    (case cNeeds => k_is)
    (case kNeeds => k_is)
    (case aAll => k_is)
    (case lAll => k_is)
    (case cAll => k_is)
    (case kAll => k_is)
    (case aWithin => k_is)
    (case lWithin => k_is)
    (case cWithin => k_is)
    (case kWithin => k_is)
    (case aNearest => k_is)
    (case lNearest => k_is)
    (case cNearest => k_is)
    (case kNearest => k_is)
    (case aMoves => k_is)
    (case lMoves => k_is)
    (case cMoves => k_is)
    (case kMoves => k_is)
    (case aCheckD => k_is)
    (case lCheckD => k_is)
    (case cCheckD => k_is)
    (case kCheckD => k_is)
    (case aRoom => k_is)
    (case lRoom => k_is)
    (case cRoom => k_is)
    (case kRoom => k_is)
    (case aAsked => k_is)
    (case lAsked => k_is)
    (case cAsked => k_is)
    (case kAsked => k_is)
    (case aOnce => k_is)
    (case lOnce => k_is)
    (case cOnce => k_is)
    (case kOnce => k_is)
    (case aLeast => k_is)
    (case lLeast => k_is)
    (case cLeast => k_is)
    (case kLeast => k_is)
    (case aNumber => k_is)
    (case lNumber => k_is)
    (case cNumber => k_is)
    (case kNumber => k_is)
    (case aTake => k_is)
    (case lTake => k_is)
    (case cTake => k_is)
    (case kTake => k_is)
    (case aPick => k_is)
    (case lPick => k_is)
    (case cPick => k_is)
    (case kPick => k_is)
    (case aLLoads => k_is)
    (case lLLoads => k_is)
    (case cLLoads => k_is)
    (case kLLoads => k_is)
    (case aLDeal => k_is)
    (case lLDeal => k_is)
    (case cLDeal => k_is)
    (case kLDeal => k_is)
    (case aLBounds => k_is)
    (case lLBounds => k_is)
    (case cLBounds => k_is)
    (case kLBounds => k_is)
    (case aRows => k_is)
    (case lRows => k_is)
    (case cRows => k_is)
    (case kRows => k_is)
    (case aBar => k_is)
    (case lBar => k_is)
    (case cBar => k_is)
    (case kBar => k_is)
    (case aSpoilt => k_is)
    (case lSpoilt => k_is)
    (case cSpoilt => k_is)
    (case kSpoilt => k_is)
    (case aToldL => k_is)
    (case lToldL => k_is)
    (case cToldL => k_is)
    (case kToldL => k_is)
    (case aRefd => k_is)
    (case lRefd => k_is)
    (case cRefd => k_is)
    (case kRefd => k_is)
    (case aLaw => k_is)
    (case lLaw => k_is)
    (case cLaw => k_is)
    (case kLaw => k_is)
    (case dRefd => k_is)
    (case vRefd => rfl)
    (case hTabRefd => exact PySem.W.km_tabs_of Y _ (by first | k_mem | exact List.mem_singleton.mpr rfl | simp))
    (case nTabRefd => first | k_is | kernel_rfl | rfl)
    (case hCodeRefd => exact PySem.W.codeHd_of_K KX (by kernel_rfl))
    (case dLaw => k_is)
    (case vLaw => rfl)
    (case hTabLaw => exact PySem.W.km_tabs_of Y _ (by first | k_mem | exact List.mem_singleton.mpr rfl | simp))
    (case nTabLaw => first | k_is | kernel_rfl | rfl)
    (case hCodeLaw => exact PySem.W.codeHd_of_K KX (by kernel_rfl))
    (case z_type => k_is)
    (case z_int => k_is)
    (case z_bool => k_is)
    (case z_len => k_is)
    (case z_list => k_is)
    (case z_tuple => k_is)
    (case z_dict => k_is)
    (case z_str => k_is)
    (case z_isinstance => k_is)
    (case z_all => k_is)
    (case z_any => k_is)
    (case z_abs => k_is)
    (case z_max => k_is)
    (case z_min => k_is)
    (case z_sum => k_is)
    (case z_range => k_is)
    (case z_sorted => k_is)
    (case z_set => k_is)
    (case z_zip => k_is)
    (case z_super => k_is)
    (case z_opq => k_is)
    (case z_top => rfl)
    (case z_MOST_LANES => k_is)
    (case z_MOST_READERS => k_is)
