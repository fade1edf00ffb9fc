/- What the document reads of bytes as a message: plain lemmas. -/
import Derived.Test.YtnfmbgmncdodkaaDoorKrx
import Derived.Test.YtnfmbgmncdodkaaDoorKru
import Derived.Test.YtnfmbgmncdodkaaDoorTks
import Derived.Test.YtnfmbgmncdodkaaDoorTko
namespace Go.Proofs.YtnfmbgmncdodkaaDoor
open Go.RowKit

/-- How many tags of a kind are below this one. -/
def cntK (kd : Int) (k : Nat) : Nat := ((tagsK kd).filter fun t => decide (t < 31 + (k : Int))).length
theorem kinds7 {kd : Int} (h1 : 1 ≤ kd) (h7 : kd ≤ 7) : kd = 1 ∨ kd = 2 ∨ kd = 3 ∨ kd = 4 ∨ kd = 5 ∨ kd = 6 ∨ kd = 7 := by omega
theorem nine {k : Nat} (h : k < 9) : k = 0 ∨ k = 1 ∨ k = 2 ∨ k = 3 ∨ k = 4 ∨ k = 5 ∨ k = 6 ∨ k = 7 ∨ k = 8 := by omega
theorem cntK_in {kd : Int} (h1 : 1 ≤ kd) (h7 : kd ≤ 7) {k : Nat} (hk : k < 9) (h : (tagsK kd).contains (31 + (k : Int)) = true) : cntK kd (k + 1) = cntK kd k + 1 ∧ (tagsK kd)[cntK kd k]? = some (31 + (k : Int)) := by
  rcases kinds7 h1 h7 with rfl | rfl | rfl | rfl | rfl | rfl | rfl <;> rcases nine hk with rfl | rfl | rfl | rfl | rfl | rfl | rfl | rfl | rfl <;> revert h <;> decide
theorem cntK_out {kd : Int} (h1 : 1 ≤ kd) (h7 : kd ≤ 7) {k : Nat} (hk : k < 9) (h : (tagsK kd).contains (31 + (k : Int)) = false) : cntK kd (k + 1) = cntK kd k := by
  rcases kinds7 h1 h7 with rfl | rfl | rfl | rfl | rfl | rfl | rfl <;> rcases nine hk with rfl | rfl | rfl | rfl | rfl | rfl | rfl | rfl | rfl <;> revert h <;> decide
theorem cntK_zero {kd : Int} (h1 : 1 ≤ kd) (h7 : kd ≤ 7) : cntK kd 0 = 0 := by rcases kinds7 h1 h7 with rfl | rfl | rfl | rfl | rfl | rfl | rfl <;> decide
theorem cntK_nine {kd : Int} (h1 : 1 ≤ kd) (h7 : kd ≤ 7) : cntK kd 9 = (tagsK kd).length := by rcases kinds7 h1 h7 with rfl | rfl | rfl | rfl | rfl | rfl | rfl <;> decide
theorem cntK_le (kd : Int) (k : Nat) : cntK kd k ≤ 9 := by
  refine Nat.le_trans (List.length_filter_le _ _) ?_
  have := tagsK_length kd
  omega
theorem tagsK_zero {kd : Int} (h1 : 1 ≤ kd) (h7 : kd ≤ 7) : (tagsK kd)[0]? = some 31 := by rcases kinds7 h1 h7 with rfl | rfl | rfl | rfl | rfl | rfl | rfl <;> decide
/-- Is what stands in a field a number, where one is asked? -/
def numOk (f : Fd) : Bool :=
  if f.1 = 34 then (readOf f.2).2 else if f.1 = 35 ∨ f.1 = 36 ∨ f.1 = 39 then (readOf f.2).2 && decide ((readOf f.2).1 ≤ 1099511627776) else true
def Good (kd : Int) (FS : List Fd) (n : Nat) : Prop := ∀ j, j < n → ∃ f, FS[j]? = some f ∧ (tagsK kd)[j]? = some f.1 ∧ numOk f = true
theorem Good.zero (kd : Int) (FS : List Fd) : Good kd FS 0 := fun _ hj => absurd hj (Nat.not_lt_zero _)
theorem Good.succ {kd : Int} {FS : List Fd} {n : Nat} (h : Good kd FS n) {f : Fd} (hf : FS[n]? = some f) (ht : (tagsK kd)[n]? = some f.1) (ho : numOk f = true) : Good kd FS (n + 1) := by
  intro j hj
  rcases Nat.lt_or_eq_of_le (Nat.le_of_lt_succ hj) with h1 | rfl
  · exact h j h1
  · exact ⟨f, hf, ht, ho⟩
/-- The message of the first fields. -/
def mAt (kd : Int) (FS : List Fd) (n : Nat) : Msg := (FS.take n).foldl putK { mZero with kd := kd }
theorem mAt_zero (kd : Int) (FS : List Fd) : mAt kd FS 0 = { mZero with kd := kd } := rfl
theorem mAt_succ {kd : Int} {FS : List Fd} {n : Nat} {f : Fd} (hf : FS[n]? = some f) : mAt kd FS (n + 1) = putK (mAt kd FS n) f := by
  unfold mAt
  rw [List.take_add_one, hf, List.foldl_append]
  rfl
theorem mAt_kd {kd : Int} {FS : List Fd} (h1 : ∀ f, FS[0]? = some f → f.1 = 31 ∧ i64w (readOf f.2).1 = kd) : ∀ n, Good kd FS n → (mAt kd FS n).kd = kd
  | 0, _ => rfl
  | n + 1, hg => by
    have ih := mAt_kd h1 n (fun j hj => hg j (Nat.lt_succ_of_lt hj))
    obtain ⟨f, hf, ht, _⟩ := hg n (Nat.lt_succ_self n)
    rw [mAt_succ hf]
    by_cases h : f.1 = 31
    · have h0 : n = 0 ∨ n ≠ 0 := by omega
      rcases h0 with rfl | h0
      · have := (h1 f hf).2
        unfold putK
        rw [if_pos h]
        exact this
      · exfalso
        rw [h] at ht
        have hd : ∀ (kd : Int) (j : Nat), (tagsK kd)[j]? = some 31 → j = 0 := by
          intro kd j hj
          unfold tagsK at hj
          repeat' split at hj
          all_goals
            rcases j with _ | _ | _ | _ | _ | _ | _ | j
            all_goals first | rfl | (simp at hj; done)
        exact h0 (hd _ _ ht)
    · have hk : (putK (mAt kd FS n) f).kd = (mAt kd FS n).kd := by
        unfold putK
        rw [if_neg h]
        repeat' split
        all_goals rfl
      rw [hk, ih]
theorem mAt_fold {kd : Int} {FS : List Fd} {f : Fd} (hf : FS[0]? = some f) (h1 : f.1 = 31) (h2 : i64w (readOf f.2).1 = kd) : mAt kd FS FS.length = foldK FS := by
  cases FS with
  | nil => cases hf
  | cons g FS =>
    injection hf with hf
    subst hf
    unfold mAt foldK
    rw [List.take_length, List.foldl_cons, List.foldl_cons]
    congr 1
    unfold putK
    rw [if_pos h1, if_pos h1]
theorem i64w_sm {n : Nat} (h : n ≤ 1099511627776) : i64w n = (n : Int) ∧ u64n (i64w n) = n := by
  have h1 : i64w n = (n : Int) := by unfold i64w; rw [IntKind.wrap_i64]; omega
  refine ⟨h1, ?_⟩
  rw [h1]
  unfold u64n
  omega
theorem numB_i64 {v : List UInt8} (h : (readOf v).2 = true) (h1 : (readOf v).1 ≤ 1099511627776) : numB (u64n (i64w (readOf v).1)) = v := by
  rw [(i64w_sm h1).2, numB_back h]
/-- What bytes that are a message's are split into. -/
theorem readsK_facts {l : List UInt8} {FS : List Fd} (hs : splitOf l = (FS, 0)) (hl : l.length ≤ 10000) (h : readsK l = true) :
    ∃ M, foldK FS = M ∧ FS = fieldsK M ∧ okK M = true ∧ lensK M ∧ M.no < 18446744073709551616 := by
  have hL : lensK (foldK FS) ∧ (foldK FS).no < 18446744073709551616 := foldK_lens FS fun f hf => by
    have h1 := len_of_tot FS f hf
    have h2 := tot_splitOf l
    rw [hs] at h2
    simp only at h2
    omega
  simp only [readsK, hs, Bool.and_eq_true, decide_eq_true_eq] at h
  obtain ⟨-, h1, h2⟩ := h
  refine ⟨_, rfl, ?_, h1, hL.1, hL.2⟩
  have h3 : splitOf (bytesK (foldK FS)) = (fieldsK (foldK FS), 0) := splitOf_bytes (fieldsK_chk _ hL.1)
  rw [h2, hs] at h3
  exact (Prod.mk.inj h3).1
theorem okK_nums {M : Msg} (ok : okK M = true) (hno : M.no < 18446744073709551616) {t : Int} (ht : t ∈ tagsK M.kd) : numOk (t, valK M t) = true := by
  have hk := tagsK_kind (okK_tags ok)
  have hb := tagsK_in _ _ ht
  unfold numOk
  by_cases h34 : t = 34
  · rw [if_pos h34, h34]
    show (readOf (numB M.no)).2 = true
    rw [readOf_numB _ hno]
  · rw [if_neg h34]
    have hc : (tagsK M.kd).contains t = true := by simpa using ht
    by_cases hn : t = 35 ∨ t = 36 ∨ t = 39
    · rw [if_pos hn]
      have hst := okK_step ok (t := t) (by omega) (by omega)
      unfold stepK at hst
      rw [if_pos hc] at hst
      have key : ∃ n : Int, valK M t = numB (u64n n) ∧ 0 ≤ n ∧ n ≤ 1099511627776 := by
        rcases hn with rfl | rfl | rfl
        · refine ⟨M.en, rfl, ?_⟩
          have h : timeOk M.en = true := hst
          simp only [timeOk, Bool.and_eq_true, decide_eq_true_eq] at h
          exact h
        · refine ⟨M.fl, rfl, ?_⟩
          have h : flagsOk M.fl = true := hst
          simp only [flagsOk, Bool.and_eq_true, decide_eq_true_eq] at h
          omega
        · refine ⟨M.co, rfl, ?_⟩
          have h : (decide (1 ≤ M.co) && decide (M.co ≤ 999)) = true := hst
          simp only [Bool.and_eq_true, decide_eq_true_eq] at h
          omega
      obtain ⟨n, h1, h2, h3⟩ := key
      rw [h1, readOf_numB _ (u64n_lt n)]
      have : u64n n ≤ 1099511627776 := by unfold u64n; omega
      simp [this]
    · rw [if_neg hn]
/-- What must hold of the fields of bytes that are a message's. -/
theorem facts_of {l : List UInt8} {FS : List Fd} (hs : splitOf l = (FS, 0)) (hl : l.length ≤ 10000) (h : readsK l = true) :
    (∃ f, FS[0]? = some f ∧ f.1 = 31 ∧ (readOf f.2).2 = true ∧ 1 ≤ (readOf f.2).1 ∧ (readOf f.2).1 ≤ 7 ∧ FS.length = (tagsK ((readOf f.2).1 : Int)).length ∧ Good ((readOf f.2).1 : Int) FS FS.length) ∧ okK (foldK FS) = true := by
  obtain ⟨M, h1, h2, ok, hL, hno⟩ := readsK_facts hs hl h
  obtain ⟨tl, ht⟩ := tagsK_cons (okK_tags ok)
  have hk := tagsK_kind (okK_tags ok)
  have hu : u64n M.kd = M.kd.toNat := by unfold u64n; omega
  have hr : readOf (valK M 31) = (M.kd.toNat, true) := by
    show readOf (numB (u64n M.kd)) = _
    rw [readOf_numB _ (u64n_lt _), hu]
  have hkd : ((M.kd.toNat : Nat) : Int) = M.kd := by omega
  have h0 : FS[0]? = some (31, valK M 31) := by rw [h2, fieldsK, ht]; rfl
  refine ⟨⟨_, h0, rfl, by rw [hr], by rw [hr]; simp only; omega, by rw [hr]; simp only; omega, ?_, ?_⟩, by rw [h1]; exact ok⟩
  · rw [hr]
    simp only
    rw [hkd, h2, fieldsK, List.length_map]
  · rw [hr]
    simp only
    rw [hkd]
    intro j hj
    have hj2 : j < (tagsK M.kd).length := by rw [h2, fieldsK, List.length_map] at hj; exact hj
    refine ⟨((tagsK M.kd)[j], valK M (tagsK M.kd)[j]), ?_, ?_, okK_nums ok hno (List.getElem_mem hj2)⟩
    · rw [h2, fieldsK, List.getElem?_map, List.getElem?_eq_getElem hj2]
      rfl
    · rw [List.getElem?_eq_getElem hj2]
theorem putK_other (m : Msg) (f : Fd) (t : Int) (h : f.1 ≠ t) : valK (putK m f) t = valK m t := by
  unfold putK
  by_cases e31 : f.1 = 31
  · rw [if_pos e31]
    have ht : ¬ t = 31 := by omega
    simp [valK, ht]
  rw [if_neg e31]
  by_cases e32 : f.1 = 32
  · rw [if_pos e32]
    have ht : ¬ t = 32 := by omega
    simp [valK, ht]
  rw [if_neg e32]
  by_cases e33 : f.1 = 33
  · rw [if_pos e33]
    have ht : ¬ t = 33 := by omega
    simp [valK, ht]
  rw [if_neg e33]
  by_cases e34 : f.1 = 34
  · rw [if_pos e34]
    have ht : ¬ t = 34 := by omega
    simp [valK, ht]
  rw [if_neg e34]
  by_cases e35 : f.1 = 35
  · rw [if_pos e35]
    have ht : ¬ t = 35 := by omega
    simp [valK, ht]
  rw [if_neg e35]
  by_cases e36 : f.1 = 36
  · rw [if_pos e36]
    have ht : ¬ t = 36 := by omega
    simp [valK, ht]
  rw [if_neg e36]
  by_cases e37 : f.1 = 37
  · rw [if_pos e37]
    have ht : ¬ t = 37 := by omega
    simp [valK, ht]
  rw [if_neg e37]
  by_cases e38 : f.1 = 38
  · rw [if_pos e38]
    have ht : ¬ t = 38 := by omega
    simp [valK, ht]
  rw [if_neg e38]
  by_cases e39 : f.1 = 39
  · rw [if_pos e39]
    have ht : ¬ t = 39 := by omega
    simp [valK, ht]
  rw [if_neg e39]
theorem putK_own (m : Msg) (t : Int) (v : List UInt8) (h31 : 31 ≤ t) (h39 : t ≤ 39) (hv : numOk (t, v) = true) (h0 : t = 31 → (readOf v).2 = true ∧ (readOf v).1 ≤ 7) : valK (putK m (t, v)) t = v := by
  unfold numOk at hv
  rcases (show t = 31 ∨ t = 32 ∨ t = 33 ∨ t = 34 ∨ t = 35 ∨ t = 36 ∨ t = 37 ∨ t = 38 ∨ t = 39 by omega) with rfl | rfl | rfl | rfl | rfl | rfl | rfl | rfl | rfl
  · obtain ⟨h1, h2⟩ := h0 rfl
    exact numB_i64 h1 (Nat.le_trans h2 (by decide))
  · rfl
  · rfl
  · exact numB_back (by simpa using hv)
  · have hw : (readOf v).2 = true ∧ (readOf v).1 ≤ 1099511627776 := by simpa using hv
    exact numB_i64 hw.1 hw.2
  · have hw : (readOf v).2 = true ∧ (readOf v).1 ≤ 1099511627776 := by simpa using hv
    exact numB_i64 hw.1 hw.2
  · rfl
  · rfl
  · have hw : (readOf v).2 = true ∧ (readOf v).1 ≤ 1099511627776 := by simpa using hv
    exact numB_i64 hw.1 hw.2
theorem fold_keep : ∀ (fs : List Fd) (m : Msg) (t : Int), (∀ f ∈ fs, f.1 ≠ t) → valK (fs.foldl putK m) t = valK m t
  | [], _, _, _ => rfl
  | f :: fs, m, t, h => by
    rw [List.foldl_cons, fold_keep fs _ t (fun g hg => h g (List.mem_cons_of_mem _ hg)), putK_other _ _ _ (h f List.mem_cons_self)]
theorem fold_own : ∀ (fs : List Fd) (m : Msg), (fs.map (·.1)).Nodup → (∀ f ∈ fs, 31 ≤ f.1 ∧ f.1 ≤ 39 ∧ numOk f = true ∧ (f.1 = 31 → (readOf f.2).2 = true ∧ (readOf f.2).1 ≤ 7)) → ∀ f ∈ fs, valK (fs.foldl putK m) f.1 = f.2
  | [], _, _, _, f, hf => by cases hf
  | g :: fs, m, hn, ha, f, hf => by
    rw [List.map_cons, List.nodup_cons] at hn
    rw [List.foldl_cons]
    rcases List.mem_cons.1 hf with rfl | hf
    · obtain ⟨a1, a2, a3, a4⟩ := ha f List.mem_cons_self
      rw [fold_keep fs _ f.1 (fun g hg he => hn.1 (he ▸ List.mem_map_of_mem hg))]
      obtain ⟨t, v⟩ := f
      exact putK_own m t v a1 a2 a3 a4
    · exact fold_own fs _ hn.2 (fun g hg => ha g (List.mem_cons_of_mem _ hg)) f hf
theorem tagsK_nodup (kd : Int) : (tagsK kd).Nodup := by
  unfold tagsK
  repeat' split
  all_goals decide
theorem good_fields {FS : List Fd} {kd : Int} (h1 : 1 ≤ kd) (h7 : kd ≤ 7) (hlen : FS.length = (tagsK kd).length) (hg : Good kd FS FS.length) (h0 : ∀ f, FS[0]? = some f → (readOf f.2).2 = true ∧ (readOf f.2).1 = kd.toNat) : fieldsK (foldK FS) = FS ∧ (foldK FS).kd = kd := by
  have hpos : 0 < FS.length := by
    have := tagsK_zero h1 h7
    have := (List.getElem?_eq_some_iff.1 this).1
    omega
  obtain ⟨f0, hf0, ht0, -⟩ := hg 0 hpos
  rw [tagsK_zero h1 h7] at ht0
  injection ht0 with ht0
  obtain ⟨r1, r2⟩ := h0 f0 hf0
  have hi : i64w (readOf f0.2).1 = kd := by
    rw [(i64w_sm (n := (readOf f0.2).1) (by omega)).1, r2]
    omega
  have hfold := mAt_fold hf0 ht0.symm hi
  have hkd : (foldK FS).kd = kd := by
    rw [← hfold]
    refine mAt_kd (fun f hf => ?_) _ hg
    rw [hf0] at hf
    injection hf with hf
    subst hf
    exact ⟨ht0.symm, hi⟩
  have hmap : FS.map (·.1) = tagsK kd := by
    refine List.ext_getElem? fun j => ?_
    by_cases hj : j < FS.length
    · obtain ⟨f, hf, ht, -⟩ := hg j hj
      rw [List.getElem?_map, hf, ht]
      rfl
    · rw [List.getElem?_eq_none (by rw [List.length_map]; omega), List.getElem?_eq_none (by omega)]
  refine ⟨?_, hkd⟩
  have hall : ∀ f ∈ FS, valK (foldK FS) f.1 = f.2 := fold_own FS mZero (by rw [hmap]; exact tagsK_nodup kd) (fun f hf => by
    obtain ⟨j, hj, rfl⟩ := List.getElem_of_mem hf
    obtain ⟨f, hf, ht, ho⟩ := hg j hj
    rw [List.getElem?_eq_getElem hj] at hf
    injection hf with hf
    have hb := tagsK_in kd f.1 (List.mem_of_getElem? ht)
    rw [hf]
    refine ⟨hb.1, hb.2, ho, fun he => ?_⟩
    have hj0 : j = 0 := by
      have hd := tagsK_nodup kd
      have e1 : (tagsK kd)[j]? = some 31 := by rw [ht, he]
      have e0 := tagsK_zero h1 h7
      exact (List.getElem?_inj (List.getElem?_eq_some_iff.1 e1).1 hd).1 (e1.trans e0.symm)
    subst hj0
    rw [List.getElem?_eq_getElem hj] at hf0
    injection hf0 with hf0
    rw [← hf, hf0]
    exact ⟨r1, by omega⟩)
  unfold fieldsK
  rw [hkd]
  refine List.ext_getElem? fun j => ?_
  by_cases hj : j < FS.length
  · obtain ⟨f, hf, ht, -⟩ := hg j hj
    rw [List.getElem?_map, ht, hf, Option.map_some, hall f (List.mem_of_getElem? hf)]
  · rw [List.getElem?_eq_none (by rw [List.length_map]; omega), List.getElem?_eq_none (by omega)]
/-- Bytes are a message's if all of this holds of their fields. -/
theorem reads_of {l : List UInt8} {FS : List Fd} {kd : Int} (hs : splitOf l = (FS, 0)) (h1 : 1 ≤ kd) (h7 : kd ≤ 7) (hlen : FS.length = (tagsK kd).length) (hg : Good kd FS FS.length) (h0 : ∀ f, FS[0]? = some f → (readOf f.2).2 = true ∧ (readOf f.2).1 = kd.toNat) : readsK l = okK (foldK FS) := by
  have h2 := (good_fields h1 h7 hlen hg h0).1
  have h3 := joinOf_splitOf l (by rw [hs])
  have h4 : bytesK (foldK FS) = l := by
    rw [hs] at h3
    simp only at h3
    have h5 := (joinOf_flat FS [] (by rw [h3])).1
    rw [h3] at h5
    rw [bytesK, h2]
    simpa [bytesF] using h5.symm
  simp only [readsK, hs, h4, decide_true, Bool.true_and, Bool.and_true]
end Go.Proofs.YtnfmbgmncdodkaaDoor
