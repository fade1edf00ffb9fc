/- The document's Split. -/
import Derived.Test.YtlkchajkhplapaaGreatDoorUaa
import Derived.Deep.QuietTactic
import Derived.BigQuiet
namespace Go.Proofs.YtlkchajkhplapaaGreatDoor
open Go.RowKit Go.Maps Go.WideMaps

theorem piece_step (c : UInt8) (l : List UInt8) (f i : Nat) (hf : f ≤ i) (hi : l[i]? = some c) (hn : c ∉ (l.drop f).take (i - f)) : pieces1 c (l.drop f) = (l.take i).drop f :: pieces1 c (l.drop (i + 1)) := by
  obtain ⟨hil, hic⟩ := List.getElem?_eq_some_iff.1 hi
  have hs : l.drop f = (l.take i).drop f ++ c :: l.drop (i + 1) := by
    rw [List.drop_take]
    conv => lhs; rw [← List.take_append_drop (i - f) (l.drop f)]
    rw [List.drop_drop, show f + (i - f) = i by omega, List.drop_eq_getElem_cons hil, hic]
  rw [hs, pieces1_at c _ _ (by rw [List.drop_take]; exact hn)]
theorem piece_last (c : UInt8) (l : List UInt8) (f : Nat) (hn : c ∉ (l.drop f).take (l.length - f)) : pieces1 c (l.drop f) = [(l.take l.length).drop f] := by
  rw [List.take_of_length_le (by rw [List.length_drop]; omega)] at hn
  rw [List.take_of_length_le (Nat.le_refl _)]
  exact pieces1_none c _ hn
theorem piece_on {c : UInt8} {l : List UInt8} {f i : Nat} (hf : f ≤ i) (hn : c ∉ (l.drop f).take (i - f)) {u : UInt8} (hu : l[i]? = some u) (hne : u ≠ c) : c ∉ (l.drop f).take (i + 1 - f) := by
  rw [show i + 1 - f = (i - f) + 1 by omega, List.take_add_one, List.getElem?_drop, show f + (i - f) = i by omega, hu]
  intro h
  rcases List.mem_append.1 h with h | h
  · exact hn h
  · simp at h; exact hne h.symm
theorem pieces_len (c : UInt8) : ∀ l : List UInt8, (pieces1 c l).length ≤ l.length + 1
  | [] => by simp [pieces1]
  | b :: l => by
    have ih := pieces_len c l
    unfold pieces1
    split
    · simp; omega
    · split
      · simp
      · rename_i p ps h
        rw [h] at ih
        simp at ih ⊢
        omega
theorem pieces_count (c : UInt8) : ∀ l : List UInt8, (pieces1 c l).length = l.count c + 1
  | [] => by simp [pieces1]
  | b :: l => by
    have ih := pieces_count c l
    unfold pieces1
    by_cases h : b = c
    · rw [if_pos h, List.length_cons, ih, h, List.count_cons_self]
    · rw [if_neg h, List.count_cons_of_ne h]
      cases hp : pieces1 c l with
      | nil => rw [hp] at ih; simp at ih
      | cons p ps => rw [hp] at ih; simpa using ih
theorem pieces_size (c : UInt8) : ∀ (l x : List UInt8), x ∈ pieces1 c l → x.length ≤ l.length
  | [], x, h => by simp [pieces1] at h; subst h; simp
  | b :: l, x, h => by
    unfold pieces1 at h
    by_cases hb : b = c
    · rw [if_pos hb] at h
      rcases List.mem_cons.1 h with rfl | h
      · simp
      · have := pieces_size c l x h; simp; omega
    · rw [if_neg hb] at h
      cases hp : pieces1 c l with
      | nil => rw [hp] at h; simp at h; subst h; simp
      | cons p ps =>
        rw [hp] at h
        rcases List.mem_cons.1 h with rfl | h
        · have := pieces_size c l p (by rw [hp]; simp); simpa using this
        · have := pieces_size c l x (by rw [hp]; simp [h]); simp; omega

set_option maxRecDepth 10000 in
set_option maxHeartbeats 2000000 in
theorem refSplit_any (w : World) (s : ByteArray) (l : List UInt8) (hl : s.data.toList = l) (c : UInt8) (hs : l.length ≤ 100000) :
    Calls Tryz.prog 76 #[.string s, .int .u8 (c.toNat : Int)] w fun e w' => ∃ v, e = .returned v ∧ RowX w' w.heap.size 9 1 v ((pieces1 c l).map fun x => [kS x]) ∧ w.grownBy w' none := by
  have hz : s.size = l.length := by rw [← hl]; rfl
  obtain ⟨n, hn⟩ : ∃ n, s.size = n := ⟨_, rfl⟩
  have HL := Lib.hid hl
  have HN := Lib.hid hn
  have HZ := Lib.hid (show l.length = n by omega)
  have HS := Lib.hid (show n ≤ 100000 by omega)
  clear hl hz hs
  go_enter Tryz.func76, Tryz.ntmps76
  go_wp2
  go_loopw [5, 6, 7] (fun ov fv iv wr => ∃ (f i : Nat) (ps : List (List UInt8)), f ≤ i ∧ i ≤ n + 1 ∧ iv = .int .i64 i ∧ fv = .int .i64 f ∧ RowX wr w.heap.size 9 1 ov (ps.map fun x => [kS x]) ∧ Hid (w.grownBy wr none) ∧ Hid (ps.length ≤ i) ∧
    Hid ((i ≤ n ∧ pieces1 c l = ps ++ pieces1 c (l.drop f) ∧ c ∉ (l.drop f).take (i - f)) ∨ (i = n + 1 ∧ ps = pieces1 c l))) (fun _ _ iv _ => n + 1 - (intOf iv).toNat)
  case atStart => exact ⟨0, 0, [], Nat.le_refl _, by omega, rfl, rfl, RowX.new0 _ _ _ _ (Nat.le_refl _), grown_alloc _ _ _, Nat.zero_le _, .inl ⟨Nat.zero_le _, by simp, by simp⟩⟩
  case round =>
    obtain ⟨f, i, ps, hfi, hin, rfl, rfl, hrow, HW, HPL, HI⟩ := hrel
    have HROW := Lib.hid hrow
    have hn0 := HS.out
    clear hrow
    by_cases hlt : i ≤ n
    · have hii : (i : Int) ≤ (n : Int) := by omega
      have hI : pieces1 c l = ps ++ pieces1 c (l.drop f) ∧ c ∉ (l.drop f).take (i - f) := by
        rcases HI.out with h | h
        · exact h.2
        · omega
      have HI2 := Lib.hid hI
      have HFI := Lib.hid hfi
      have hext : s.extract f i = ⟨((l.take i).drop f).toArray⟩ := bytes_of (ext_data s l HL.out f i)
      have HX := Lib.hid hext
      have hfi2 : (f : Int) ≤ (i : Int) := by omega
      have HLR := Lib.hid (show (ps.map fun x => [kS x]).length ≤ 1000000000 by rw [List.length_map]; have := HPL.out; omega)
      clear hI HI hext
      by_cases he : i = n
      · have hie : ((i : Int) == (n : Int)) = true := by subst he; exact beq_self_eq_true _
        have HE := Lib.hid he
        clear he
        have hin2 : ¬ (n : Int) < (i : Int) := by omega
        go_wp2_with (refine wpList_appX rowS rfl (.tmp 26) (.tmp 31) rfl (p := [.string (s.extract f i)]) (b := wr.heap.size) (off := 0) (c := 1) (HROW.out.none (grown_alloc wr (.cells #[.string (s.extract f i)] 9) none)) (fun j v hj => by have := (CB.new wr 9 [.string (s.extract f i)]).at_ hj; rwa [Nat.zero_add]) rfl (by simp [Value.oneCell']) (by first | rfl | go_simp) (by first | rfl | go_simp) HLR.out (by rw [World.size_alloc]; have := HW.out.size; omega) ?_
                     intro v' w5 h5 g5 a5
                     have RL5 := Lib.hid h5
                     have W5 := Lib.hid (none_rowB (grown_trans' HW.out (grown_alloc wr (.cells #[.string (s.extract f i)] 9) none)) g5 (fun g hg => (HROW.out.lt g hg).1))
                     clear h5 g5 a5)
        go_roundw
        case rel =>
          refine ⟨i + 1, i + 1, ps ++ [(l.take i).drop f], Nat.le_refl _, by omega, by go_num, by go_num, ?_, W5.out, by rw [List.length_append]; have := HPL.out; simp; omega, .inr ⟨by have := HE.out; omega, ?_⟩⟩
          · have h := RL5.out
            rw [HX.out] at h
            rw [List.map_append]
            exact h
          · have h := HI2.out
            have hnl := HE.out
            have hll := HZ.out
            rw [h.1, hnl, ← hll, piece_last c l f (by have := h.2; rwa [hnl, ← hll] at this)]
        case measure => simp [intOf]; omega
      · have hie : ((i : Int) == (n : Int)) = false := beq_eq_false_iff_ne.2 (by omega)
        have hil : i < l.length := by have := HZ.out; omega
        have hisz : (i : Int) < (s.size : Int) := by have := HN.out; omega
        obtain ⟨u, hu⟩ : ∃ u, l[i]? = some u := ⟨_, List.getElem?_eq_getElem hil⟩
        have hg : s[i]'(by have := HN.out; omega) = u := by
          obtain ⟨h1, h2⟩ := List.getElem?_eq_some_iff.1 hu
          have := HL.out
          subst this
          rw [← h2]
          simp [ByteArray.getElem_eq_getElem_data]
        have HU := Lib.hid hu
        have HNE := Lib.hid he
        clear he hil hu
        by_cases hc : u = c
        · have hcq : ((u.toNat : Int) == (c.toNat : Int)) = true := by rw [hc]; exact beq_self_eq_true _
          have HC := Lib.hid hc
          clear hc
          go_wp2_with (refine wpList_appX rowS rfl (.tmp 26) (.tmp 31) rfl (p := [.string (s.extract f i)]) (b := wr.heap.size) (off := 0) (c := 1) (HROW.out.none (grown_alloc wr (.cells #[.string (s.extract f i)] 9) none)) (fun j v hj => by have := (CB.new wr 9 [.string (s.extract f i)]).at_ hj; rwa [Nat.zero_add]) rfl (by simp [Value.oneCell']) (by first | rfl | go_simp) (by first | rfl | go_simp) HLR.out (by rw [World.size_alloc]; have := HW.out.size; omega) ?_
                       intro v' w5 h5 g5 a5
                       have RL5 := Lib.hid h5
                       have W5 := Lib.hid (none_rowB (grown_trans' HW.out (grown_alloc wr (.cells #[.string (s.extract f i)] 9) none)) g5 (fun g hg => (HROW.out.lt g hg).1))
                       clear h5 g5 a5)
          go_roundw
          case rel =>
            refine ⟨i + 1, i + 1, ps ++ [(l.take i).drop f], Nat.le_refl _, by omega, by go_num, by go_num, ?_, W5.out, by rw [List.length_append]; have := HPL.out; simp; omega, .inl ⟨by have := HNE.out; omega, ?_, by simp⟩⟩
            · have h := RL5.out
              rw [HX.out] at h
              rw [List.map_append]
              exact h
            · have h := HI2.out
              rw [h.1, piece_step c l f i HFI.out (by rw [HU.out, HC.out]) h.2, List.append_assoc]
              rfl
          case measure => simp [intOf]; omega
        · have hcq : ((u.toNat : Int) == (c.toNat : Int)) = false := beq_eq_false_iff_ne.2 (fun e => hc (UInt8.toNat.inj (by omega)))
          have HC := Lib.hid hc
          clear hc
          go_wp2
          go_roundw
          case rel => exact ⟨f, i + 1, ps, by have := HFI.out; omega, by omega, by go_num, rfl, HROW.out, HW.out, Nat.le_succ_of_le HPL.out, .inl ⟨by have := HNE.out; omega, HI2.out.1, piece_on HFI.out HI2.out.2 HU.out HC.out⟩⟩
          case measure => simp [intOf]; omega
    · have hii : ¬ (i : Int) ≤ (n : Int) := by omega
      have hP : ps = pieces1 c l := by
        rcases HI.out with h | h
        · omega
        · exact h.2
      have HP := Lib.hid hP
      clear hP HI
      go_wp2
      go_ret
      exact ⟨_, rfl, by rw [← HP.out]; exact HROW.out, HW.out⟩
end Go.Proofs.YtlkchajkhplapaaGreatDoor
