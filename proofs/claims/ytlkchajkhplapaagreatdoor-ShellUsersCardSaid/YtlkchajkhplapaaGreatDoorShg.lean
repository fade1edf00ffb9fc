/- Words of a line whose words stand further apart. -/
import Derived.Test.YtlkchajkhplapaaGreatDoorShc
namespace Go.Proofs.YtlkchajkhplapaaGreatDoor

theorem pieces_out (c : UInt8) : ∀ (l x : List UInt8), x ∈ pieces1 c l → c ∉ x
  | [], x, h => by simp [pieces1] at h; subst h; simp
  | b :: l, x, h => by
    unfold pieces1 at h
    by_cases hb : b = c
    · rw [if_pos hb] at h
      rcases List.mem_cons.1 h with rfl | h
      · simp
      · exact pieces_out c l x h
    · rw [if_neg hb] at h
      cases hp : pieces1 c l with
      | nil => rw [hp] at h; simp at h; subst h; simpa using fun e => hb e.symm
      | cons p ps =>
        rw [hp] at h
        rcases List.mem_cons.1 h with rfl | h
        · have := pieces_out c l p (by rw [hp]; simp)
          intro hc
          rcases List.mem_cons.1 hc with e | e
          · exact hb e.symm
          · exact this e
        · exact pieces_out c l x (by rw [hp]; simp [h])
theorem wds_mem {c : UInt8} {l x : List UInt8} (h : x ∈ wds (pieces1 c l)) : x ≠ [] ∧ c ∉ x ∧ x.length ≤ l.length := by
  obtain ⟨h1, h2⟩ := List.mem_filter.1 h
  exact ⟨by simpa using h2, pieces_out c l x h1, pieces_size c l x h1⟩
theorem wds_blank (c : UInt8) (l : List UInt8) : wds (pieces1 c (c :: l)) = wds (pieces1 c l) := by
  rw [pieces1, if_pos rfl]; rfl
theorem wds_blanks (c : UInt8) (l : List UInt8) : ∀ k, wds (pieces1 c (List.replicate k c ++ l)) = wds (pieces1 c l)
  | 0 => rfl
  | k + 1 => by rw [List.replicate_succ, List.cons_append, wds_blank, wds_blanks c l k]
theorem wds_word {c : UInt8} {x : List UInt8} (h1 : x ≠ []) (h2 : c ∉ x) (l : List UInt8) : wds (pieces1 c (x ++ c :: l)) = x :: wds (pieces1 c l) := by
  rw [pieces1_at c l x h2]
  unfold wds
  rw [List.filter_cons, if_pos (by simpa using h1)]
theorem wds_last {c : UInt8} {x : List UInt8} (h1 : x ≠ []) (h2 : c ∉ x) : wds (pieces1 c x) = [x] := by
  rw [pieces1_none c x h2]
  unfold wds
  rw [List.filter_cons, if_pos (by simpa using h1)]
  rfl
/-- These words, so many blanks ahead of each. -/
def wideL (c : UInt8) (k : Nat) (ws : List (List UInt8)) : List UInt8 := (ws.map fun x => List.replicate k c ++ x).flatten
theorem wideL_snoc (c : UInt8) (k : Nat) (ws : List (List UInt8)) (x : List UInt8) : wideL c k (ws ++ [x]) = wideL c k ws ++ (List.replicate k c ++ x) := by
  simp [wideL]
theorem wds_wide (c : UInt8) (k : Nat) (hk : 1 ≤ k) : ∀ ws : List (List UInt8), (∀ x ∈ ws, x ≠ [] ∧ c ∉ x) → wds (pieces1 c (wideL c k ws)) = ws
  | [], _ => rfl
  | [x], h => by
    have hx := h x (by simp)
    show wds (pieces1 c ((List.replicate k c ++ x) ++ [])) = [x]
    rw [List.append_nil, wds_blanks, wds_last hx.1 hx.2]
  | x :: y :: ws, h => by
    have hx := h x (by simp)
    have ih := wds_wide c k hk (y :: ws) (fun z hz => h z (by simp [hz]))
    obtain ⟨j, rfl⟩ : ∃ j, k = j + 1 := ⟨k - 1, by omega⟩
    have e : wideL c (j + 1) (y :: ws) = c :: (List.replicate j c ++ y ++ wideL c (j + 1) ws) := by
      simp [wideL, List.replicate_succ]
    show wds (pieces1 c ((List.replicate (j + 1) c ++ x) ++ wideL c (j + 1) (y :: ws))) = x :: y :: ws
    rw [List.append_assoc, wds_blanks, e, wds_word hx.1 hx.2, ← wds_blank c (List.replicate j c ++ y ++ wideL c (j + 1) ws), ← e, ih]
theorem wideL_len (c : UInt8) (k : Nat) : ∀ ws : List (List UInt8), (wideL c k ws).length = ws.length * k + ws.flatten.length
  | [] => by simp [wideL]
  | x :: ws => by
    have ih := wideL_len c k ws
    have e : wideL c k (x :: ws) = (List.replicate k c ++ x) ++ wideL c k ws := rfl
    rw [e, List.length_append, List.length_append, List.length_replicate, List.length_cons, Nat.succ_mul, List.flatten_cons, List.length_append]
    omega
theorem pieces_flat (c : UInt8) : ∀ l : List UInt8, (pieces1 c l).flatten.length + (pieces1 c l).length = l.length + 1
  | [] => rfl
  | b :: l => by
    have ih := pieces_flat c l
    unfold pieces1
    by_cases hb : b = c
    · rw [if_pos hb, List.flatten_cons, List.length_append, List.length_cons, List.length_cons, List.length_nil]; omega
    · rw [if_neg hb]
      cases hp : pieces1 c l with
      | nil => rw [hp] at ih; simp at ih
      | cons p ps =>
        rw [hp] at ih
        simp only [List.flatten_cons, List.length_append, List.length_cons] at ih ⊢
        omega
theorem wds_flat : ∀ ps : List (List UInt8), (wds ps).flatten = ps.flatten
  | [] => rfl
  | x :: ps => by
    have ih := wds_flat ps
    unfold wds at ih ⊢
    by_cases h : x = []
    · subst h
      rw [List.filter_cons, if_neg (by simp), ih]; rfl
    · rw [List.filter_cons, if_pos (by simpa using h), List.flatten_cons, List.flatten_cons, ih]
theorem wide_len (c : UInt8) (k : Nat) (l : List UInt8) : (wideL c k (wds (pieces1 c l))).length ≤ (l.length + 1) * k + l.length := by
  have h1 := pieces_flat c l
  have h2 := wds_len (pieces1 c l)
  have h3 := pieces_len c l
  rw [wideL_len, wds_flat]
  have h4 : (wds (pieces1 c l)).length * k ≤ (l.length + 1) * k := Nat.mul_le_mul_right k (by omega)
  have h5 : 1 ≤ (pieces1 c l).length := by rw [pieces_count]; omega
  omega
end Go.Proofs.YtlkchajkhplapaaGreatDoor
namespace Go.Proofs.YtlkchajkhplapaaGreatDoor
open Go.RowKit Go.Maps Go.WideMaps

def digit (b : UInt8) : Bool := decide (48 ≤ b.toNat ∧ b.toNat ≤ 57)
def valF (l : List UInt8) : Nat := l.foldl (fun n b => n * 10 + (b.toNat - 48)) 0
theorem valF_snoc (l : List UInt8) (b : UInt8) : valF (l ++ [b]) = valF l * 10 + (b.toNat - 48) := by simp [valF]
theorem valF_lt (l : List UInt8) (h : ∀ b ∈ l, digit b = true) : ∀ k, k ≤ l.length → valF (l.take k) < 10 ^ k
  | 0, _ => by simp [valF]
  | k + 1, hk => by
    have ih := valF_lt l h k (by omega)
    have hx := List.take_succ_eq_append_getElem (i := k) (l := l) (by omega)
    have hd := h l[k] (List.getElem_mem _)
    have hd2 := of_decide_eq_true (p := 48 ≤ l[k].toNat ∧ l[k].toNat ≤ 57) hd
    rw [hx, valF_snoc, Nat.pow_succ]
    omega
def numOk (l : List UInt8) : Bool := decide (l.length ≤ 3) && l.all digit && decide (valF l ≤ 255)

set_option maxHeartbeats 1000000 in
theorem value_any (w : World) (s : ByteArray) (l : List UInt8) (hl : s.data.toList = l) (hd : ∀ b ∈ l, digit b = true) (hn : l.length ≤ 3) :
    Calls Tryz.prog 118 #[.string s] w fun e w' => e = .returned (.int .i64 (valF l)) ∧ w' = w := by
  have hz : s.size = l.length := by rw [← hl]; rfl
  obtain ⟨n, hnn⟩ : ∃ n, s.size = n := ⟨_, rfl⟩
  have HL := Lib.hid hl
  have HZ := Lib.hid (show l.length = n by omega)
  have HN := Lib.hid (show n ≤ 3 by omega)
  have HD := Lib.hid hd
  have HS := Lib.hid hnn
  clear hl hd hn hz
  go_enter Tryz.func118, Tryz.ntmps118
  go_wp2
  go_loopw [3, 7] (fun nv iv wr => ∃ k : Nat, iv = .int .i64 k ∧ k ≤ n ∧ nv = .int .i64 (valF (l.take k)) ∧ wr = w) (fun _ iv _ => n - (intOf iv).toNat)
  case atStart => exact ⟨0, rfl, Nat.zero_le _, rfl, rfl⟩
  case round =>
    obtain ⟨k, rfl, hk, rfl, rfl⟩ := hrel
    have hn3 := HN.out
    by_cases hlt : k < n
    · have hki : (k : Int) < (n : Int) := by omega
      have hkl : k < l.length := by rw [HZ.out]; exact hlt
      have hks : k < s.size := by rw [HS.out]; exact hlt
      obtain ⟨u, hu⟩ : ∃ u, l[k] = u := ⟨_, rfl⟩
      have hg : s[k]'hks = u := by
        have := HL.out
        subst this
        rw [← hu]
        simp [ByteArray.getElem_eq_getElem_data]
      have hdu := of_decide_eq_true (p := 48 ≤ u.toNat ∧ u.toNat ≤ 57) (HD.out u (by rw [← hu]; exact List.getElem_mem _))
      have HT := Lib.hid (show valF (l.take (k + 1)) = valF (l.take k) * 10 + (u.toNat - 48) by rw [List.take_succ_eq_append_getElem hkl, hu, valF_snoc])
      have hv := valF_lt l HD.out k (by omega)
      have hv2 : valF (l.take k) < 1000 := Nat.lt_of_lt_of_le hv (Nat.le_trans (Nat.pow_le_pow_right (by omega) (show k ≤ 3 by omega)) (by decide))
      obtain ⟨m, hm⟩ : ∃ m, valF (l.take k) = m := ⟨_, rfl⟩
      obtain ⟨c, hc⟩ : ∃ c, u.toNat = c := ⟨_, rfl⟩
      rw [hm, hc] at HT
      rw [hm] at hv2 ⊢
      rw [hc] at hdu
      have gg : ((s[k]'hks).toNat : Int) = (c : Int) := by rw [hg, hc]
      have gn : (s[k]'hks).toNat = c := by rw [hg, hc]
      obtain ⟨d1, d2⟩ := hdu
      have d3 : (48 : Int) ≤ (c : Int) := by omega
      clear hg hu hv hc hm hkl
      go_wp2
      go_roundw
      case rel => exact ⟨k + 1, by go_num, by omega, by rw [HT.out]; go_num, by first | rfl | trivial⟩
      case measure => simp [intOf]; omega
    · have hki : ¬ (k : Int) < (n : Int) := by omega
      have HE := Lib.hid (show l.take k = l from List.take_of_length_le (by rw [HZ.out]; omega))
      go_wp2
      go_ret
      exact ⟨by rw [HE.out]; rfl, rfl⟩
set_option maxHeartbeats 2000000 in
theorem isNumber_any (w : World) (s : ByteArray) (l : List UInt8) (hl : s.data.toList = l) (hn : l.length ≤ 1000000) :
    Calls Tryz.prog 148 #[.string s] w fun e w' => e = .returned (.bool (numOk l)) ∧ w' = w := by
  have hz : s.size = l.length := by rw [← hl]; rfl
  obtain ⟨n, hnn⟩ : ∃ n, s.size = n := ⟨_, rfl⟩
  by_cases h3 : n ≤ 3
  · have HL := Lib.hid hl
    have HZ := Lib.hid (show l.length = n by omega)
    have HN := Lib.hid h3
    have HS := Lib.hid hnn
    have n3 : ¬ (3 : Int) < (n : Int) := by omega
    have VA := Lib.hid (fun (W : World) (hd : ∀ b ∈ l, digit b = true) => value_any W s l hl hd (by omega))
    clear hl hn hz h3
    go_enter Tryz.func148, Tryz.ntmps148
    go_wp2
    go_loopw [9] (fun iv wr => ∃ k : Nat, iv = .int .i64 k ∧ k ≤ n ∧ (l.take k).all digit = true ∧ wr = w) (fun iv _ => n - (intOf iv).toNat)
    case atStart => exact ⟨0, rfl, Nat.zero_le _, rfl, rfl⟩
    case round =>
      obtain ⟨k, rfl, hk, ha, rfl⟩ := hrel
      have hn3 := HN.out
      by_cases hlt : k < n
      · have hki : (k : Int) < (n : Int) := by omega
        have hkl : k < l.length := by rw [HZ.out]; exact hlt
        have hks : k < s.size := by rw [HS.out]; exact hlt
        obtain ⟨u, hu⟩ : ∃ u, l[k] = u := ⟨_, rfl⟩
        have hg : s[k]'hks = u := by
          have := HL.out
          subst this
          rw [← hu]
          simp [ByteArray.getElem_eq_getElem_data]
        have HT := Lib.hid (show (l.take (k + 1)).all digit = digit u by rw [List.take_succ_eq_append_getElem hkl, List.all_append, ha, hu]; simp)
        have HM := Lib.hid (show u ∈ l by rw [← hu]; exact List.getElem_mem _)
        obtain ⟨c, hc⟩ : ∃ c, u.toNat = c := ⟨_, rfl⟩
        have HC := Lib.hid hc
        have gg : ((s[k]'hks).toNat : Int) = (c : Int) := by rw [hg, hc]
        have gn : (s[k]'hks).toNat = c := by rw [hg, hc]
        clear hg hu hc hkl ha
        rcases (show c < 48 ∨ (48 ≤ c ∧ c ≤ 57) ∨ 57 < c by omega) with hi | hi | hi
        · have f0 : (c : Int) < 48 := by omega
          have HF := Lib.hid (show numOk l = false by
            unfold numOk
            rw [show l.all digit = false from List.all_eq_false.2 ⟨u, HM.out, by unfold digit; rw [HC.out]; simp; omega⟩]
            simp)
          clear hi
          go_wp2
          go_ret
          exact ⟨by rw [HF.out]; rfl, rfl⟩
        · have f0 : ¬ (c : Int) < 48 := by omega
          have f1 : ¬ (57 : Int) < (c : Int) := by omega
          have HF := Lib.hid (show digit u = true by unfold digit; rw [HC.out]; exact decide_eq_true hi)
          clear hi
          go_wp2
          go_roundw
          case rel => exact ⟨k + 1, by go_num, by omega, by rw [HT.out, HF.out], by first | rfl | trivial⟩
          case measure => simp [intOf]; omega
        · have f0 : ¬ (c : Int) < 48 := by omega
          have f1 : (57 : Int) < (c : Int) := by omega
          have HF := Lib.hid (show numOk l = false by
            unfold numOk
            rw [show l.all digit = false from List.all_eq_false.2 ⟨u, HM.out, by unfold digit; rw [HC.out]; simp; omega⟩]
            simp)
          clear hi
          go_wp2
          go_ret
          exact ⟨by rw [HF.out]; rfl, rfl⟩
      · have hki : ¬ (k : Int) < (n : Int) := by omega
        rw [List.take_of_length_le (by rw [HZ.out]; omega)] at ha
        have HA := Lib.hid (show numOk l = decide (valF l ≤ 255) by unfold numOk; rw [ha, HZ.out]; simp [HN.out])
        have VB := Lib.hid (fun (W : World) => VA.out W (fun b hb => List.all_eq_true.1 ha b hb))
        obtain ⟨m, hm⟩ : ∃ m, valF l = m := ⟨_, rfl⟩
        rw [hm] at HA VB
        clear ha hm
        by_cases hv : m ≤ 255
        · have f0 : (m : Int) ≤ 255 := by omega
          have HV := Lib.hid hv
          clear hv
          go_wp2_with (go_at_call 118; refine (VB.out _).mono ?_; rintro e w1 ⟨rfl, rfl⟩)
          go_ret
          exact ⟨by rw [HA.out, decide_eq_true HV.out]; rfl, rfl⟩
        · have f0 : ¬ (m : Int) ≤ 255 := by omega
          have HV := Lib.hid hv
          clear hv
          go_wp2_with (go_at_call 118; refine (VB.out _).mono ?_; rintro e w1 ⟨rfl, rfl⟩)
          go_ret
          exact ⟨by rw [HA.out, ← show decide ((m : Int) ≤ 255) = decide (m ≤ 255) from decide_eq_decide.2 (by omega)]; rfl, rfl⟩
  · have HF := Lib.hid (show numOk l = false by unfold numOk; rw [decide_eq_false (show ¬ l.length ≤ 3 by omega)]; simp)
    have n3 : (3 : Int) < (n : Int) := by omega
    clear hl hn hz h3
    go_enter Tryz.func148, Tryz.ntmps148
    go_wp2
    go_ret
    exact ⟨by rw [HF.out]; rfl, rfl⟩
end Go.Proofs.YtlkchajkhplapaaGreatDoor
namespace Go.Proofs.YtlkchajkhplapaaGreatDoor
open Go.RowKit Go.Maps Go.WideMaps

def cEcho : List UInt8 := [101, 99, 104, 111]
def cWhoami : List UInt8 := [119, 104, 111, 97, 109, 105]
def cCat : List UInt8 := [99, 97, 116]
def cLs : List UInt8 := [108, 115]
def cMkdir : List UInt8 := [109, 107, 100, 105, 114]
def cRm : List UInt8 := [114, 109]
def cPut : List UInt8 := [112, 117, 116]
def cChmod : List UInt8 := [99, 104, 109, 111, 100]
def cExit : List UInt8 := [101, 120, 105, 116]
/-- Known; takes as many arguments as these. -/
def usageF (cmd : List UInt8) (args : List (List UInt8)) : Bool × Bool :=
  let n := args.length
  if cmd = cEcho then (true, true)
  else if cmd = cWhoami then (true, decide (n = 0))
  else if cmd = cCat then (true, decide (n = 1))
  else if cmd = cLs then (true, decide (n = 1))
  else if cmd = cMkdir then (true, decide (n = 1))
  else if cmd = cRm then (true, decide (n = 1))
  else if cmd = cPut then (true, decide (1 ≤ n))
  else if cmd = cChmod then (true, decide (n = 2) && numOk (args.headD []))
  else if cmd = cExit then (true, decide (n = 1) && numOk (args.headD []))
  else (false, false)
theorem usage_echo (args : List (List UInt8)) : usageF cEcho args = (true, true) := rfl
theorem usage_whoami (args : List (List UInt8)) : usageF cWhoami args = (true, decide (args.length = 0)) := rfl
theorem usage_cat (args : List (List UInt8)) : usageF cCat args = (true, decide (args.length = 1)) := rfl
theorem usage_ls (args : List (List UInt8)) : usageF cLs args = (true, decide (args.length = 1)) := rfl
theorem usage_mkdir (args : List (List UInt8)) : usageF cMkdir args = (true, decide (args.length = 1)) := rfl
theorem usage_rm (args : List (List UInt8)) : usageF cRm args = (true, decide (args.length = 1)) := rfl
theorem usage_put (args : List (List UInt8)) : usageF cPut args = (true, decide (1 ≤ args.length)) := rfl
theorem usage_chmod (args : List (List UInt8)) : usageF cChmod args = (true, decide (args.length = 2) && numOk (args.headD [])) := rfl
theorem usage_exit (args : List (List UInt8)) : usageF cExit args = (true, decide (args.length = 1) && numOk (args.headD [])) := rfl

set_option maxRecDepth 10000 in
set_option maxHeartbeats 4000000 in
theorem usage_any (w : World) (s : ByteArray) (cmd : List UInt8) (hl : s.data.toList = cmd) (A : Option Addr) (args : List (List UInt8)) (n cap : Nat) (hn : args.length = n) (hr : SR w w.heap.size A 1 (args.map fun x => [kS x]) cap) (hs : ∀ x ∈ args, x.length ≤ 1000000) :
    Calls Tryz.prog 115 #[.string s, .slice A n cap] w fun e w' => e = .returned (.tuple #[.bool (usageF cmd args).1, .bool (usageF cmd args).2]) ∧ w.grownBy w' none := by
  have hb := bytes_of hl
  have HR := Lib.hid hr
  have HN := Lib.hid hn
  have hsz : n ≤ maxLen := by have := hr.1; have := hr.2.1; rw [List.length_map, hn] at *; omega
  have hm : n ≤ 9223372036854775807 := by unfold maxLen at hsz; omega
  have HS := Lib.hid hs
  clear hl hr hn hs hsz
  by_cases hecho : cmd = cEcho
  · subst hecho
    subst hb
    go_enter Tryz.func115, Tryz.ntmps115
    go_wp2
    go_ret2
    exact ⟨by rw [usage_echo]; rfl, World.grownBy.refl w none⟩
  by_cases hwhoami : cmd = cWhoami
  · subst hwhoami
    subst hb
    by_cases hk : n = 0
    · have f0 : ((n : Int) == 0) = true := beq_iff_eq.2 (by omega)
      go_enter Tryz.func115, Tryz.ntmps115
      go_wp2
      go_ret2
      exact ⟨by rw [usage_whoami, HN.out, decide_eq_true hk]; rfl, World.grownBy.refl w none⟩
    · have f0 : ((n : Int) == 0) = false := beq_eq_false_iff_ne.2 (by omega)
      go_enter Tryz.func115, Tryz.ntmps115
      go_wp2
      go_ret2
      exact ⟨by rw [usage_whoami, HN.out, decide_eq_false hk]; rfl, World.grownBy.refl w none⟩
  by_cases hcat : cmd = cCat
  · subst hcat
    subst hb
    by_cases hk : n = 1
    · have f0 : ((n : Int) == 1) = true := beq_iff_eq.2 (by omega)
      go_enter Tryz.func115, Tryz.ntmps115
      go_wp2
      go_ret2
      exact ⟨by rw [usage_cat, HN.out, decide_eq_true hk]; rfl, World.grownBy.refl w none⟩
    · have f0 : ((n : Int) == 1) = false := beq_eq_false_iff_ne.2 (by omega)
      go_enter Tryz.func115, Tryz.ntmps115
      go_wp2
      go_ret2
      exact ⟨by rw [usage_cat, HN.out, decide_eq_false hk]; rfl, World.grownBy.refl w none⟩
  by_cases hls : cmd = cLs
  · subst hls
    subst hb
    by_cases hk : n = 1
    · have f0 : ((n : Int) == 1) = true := beq_iff_eq.2 (by omega)
      go_enter Tryz.func115, Tryz.ntmps115
      go_wp2
      go_ret2
      exact ⟨by rw [usage_ls, HN.out, decide_eq_true hk]; rfl, World.grownBy.refl w none⟩
    · have f0 : ((n : Int) == 1) = false := beq_eq_false_iff_ne.2 (by omega)
      go_enter Tryz.func115, Tryz.ntmps115
      go_wp2
      go_ret2
      exact ⟨by rw [usage_ls, HN.out, decide_eq_false hk]; rfl, World.grownBy.refl w none⟩
  by_cases hmkdir : cmd = cMkdir
  · subst hmkdir
    subst hb
    by_cases hk : n = 1
    · have f0 : ((n : Int) == 1) = true := beq_iff_eq.2 (by omega)
      go_enter Tryz.func115, Tryz.ntmps115
      go_wp2
      go_ret2
      exact ⟨by rw [usage_mkdir, HN.out, decide_eq_true hk]; rfl, World.grownBy.refl w none⟩
    · have f0 : ((n : Int) == 1) = false := beq_eq_false_iff_ne.2 (by omega)
      go_enter Tryz.func115, Tryz.ntmps115
      go_wp2
      go_ret2
      exact ⟨by rw [usage_mkdir, HN.out, decide_eq_false hk]; rfl, World.grownBy.refl w none⟩
  by_cases hrm : cmd = cRm
  · subst hrm
    subst hb
    by_cases hk : n = 1
    · have f0 : ((n : Int) == 1) = true := beq_iff_eq.2 (by omega)
      go_enter Tryz.func115, Tryz.ntmps115
      go_wp2
      go_ret2
      exact ⟨by rw [usage_rm, HN.out, decide_eq_true hk]; rfl, World.grownBy.refl w none⟩
    · have f0 : ((n : Int) == 1) = false := beq_eq_false_iff_ne.2 (by omega)
      go_enter Tryz.func115, Tryz.ntmps115
      go_wp2
      go_ret2
      exact ⟨by rw [usage_rm, HN.out, decide_eq_false hk]; rfl, World.grownBy.refl w none⟩
  by_cases hput : cmd = cPut
  · subst hput
    subst hb
    by_cases hk : 1 ≤ n
    · have f0 : (1 : Int) ≤ (n : Int) := by omega
      go_enter Tryz.func115, Tryz.ntmps115
      go_wp2
      go_ret2
      exact ⟨by rw [usage_put, HN.out, decide_eq_true hk]; rfl, World.grownBy.refl w none⟩
    · have f0 : ¬ (1 : Int) ≤ (n : Int) := by omega
      go_enter Tryz.func115, Tryz.ntmps115
      go_wp2
      go_ret2
      exact ⟨by rw [usage_put, HN.out, decide_eq_false hk]; rfl, World.grownBy.refl w none⟩
  by_cases hchmod : cmd = cChmod
  · subst hchmod
    subst hb
    by_cases hk : n = 2
    · have f0 : ((n : Int) == 2) = true := beq_iff_eq.2 (by omega)
      have f1 : (0 : Int) < (n : Int) := by omega
      obtain ⟨x, xs, rfl⟩ : ∃ x xs, args = x :: xs := by cases args with
        | nil => have := HN.out; simp at this; omega
        | cons x xs => exact ⟨x, xs, rfl⟩
      obtain ⟨b, off, rfl, -, hc⟩ := HR.out.elem (k := 0) (by simp)
      have c1 : w.cell? ⟨b, off, none⟩ = some (.string ⟨x.toArray⟩) := hc 0 _ rfl
      have IN := Lib.hid (fun W => isNumber_any W ⟨x.toArray⟩ x rfl (HS.out x (by simp)))
      clear hc
      go_enter Tryz.func115, Tryz.ntmps115
      go_wp2_with (go_at_call 148; refine (IN.out _).mono ?_; rintro e w1 ⟨rfl, rfl⟩)
      go_ret2
      exact ⟨by rw [usage_chmod, HN.out, decide_eq_true hk]; rfl, World.grownBy.refl _ none⟩
    · have f0 : ((n : Int) == 2) = false := beq_eq_false_iff_ne.2 (by omega)
      go_enter Tryz.func115, Tryz.ntmps115
      go_wp2
      go_ret2
      exact ⟨by rw [usage_chmod, HN.out, decide_eq_false hk]; rfl, World.grownBy.refl _ none⟩
  by_cases hexit : cmd = cExit
  · subst hexit
    subst hb
    by_cases hk : n = 1
    · have f0 : ((n : Int) == 1) = true := beq_iff_eq.2 (by omega)
      have f1 : (0 : Int) < (n : Int) := by omega
      obtain ⟨x, xs, rfl⟩ : ∃ x xs, args = x :: xs := by cases args with
        | nil => have := HN.out; simp at this; omega
        | cons x xs => exact ⟨x, xs, rfl⟩
      obtain ⟨b, off, rfl, -, hc⟩ := HR.out.elem (k := 0) (by simp)
      have c1 : w.cell? ⟨b, off, none⟩ = some (.string ⟨x.toArray⟩) := hc 0 _ rfl
      have IN := Lib.hid (fun W => isNumber_any W ⟨x.toArray⟩ x rfl (HS.out x (by simp)))
      clear hc
      go_enter Tryz.func115, Tryz.ntmps115
      go_wp2_with (go_at_call 148; refine (IN.out _).mono ?_; rintro e w1 ⟨rfl, rfl⟩)
      go_ret2
      exact ⟨by rw [usage_exit, HN.out, decide_eq_true hk]; rfl, World.grownBy.refl _ none⟩
    · have f0 : ((n : Int) == 1) = false := beq_eq_false_iff_ne.2 (by omega)
      go_enter Tryz.func115, Tryz.ntmps115
      go_wp2
      go_ret2
      exact ⟨by rw [usage_exit, HN.out, decide_eq_false hk]; rfl, World.grownBy.refl _ none⟩
  have HU := Lib.hid (show usageF cmd args = (false, false) by unfold usageF; simp only [if_neg hecho, if_neg hwhoami, if_neg hcat, if_neg hls, if_neg hmkdir, if_neg hrm, if_neg hput, if_neg hchmod, if_neg hexit])
  have eecho : (cmd == [101, 99, 104, 111]) = false := beq_eq_false_iff_ne.2 hecho
  have ewhoami : (cmd == [119, 104, 111, 97, 109, 105]) = false := beq_eq_false_iff_ne.2 hwhoami
  have ecat : (cmd == [99, 97, 116]) = false := beq_eq_false_iff_ne.2 hcat
  have els : (cmd == [108, 115]) = false := beq_eq_false_iff_ne.2 hls
  have emkdir : (cmd == [109, 107, 100, 105, 114]) = false := beq_eq_false_iff_ne.2 hmkdir
  have erm : (cmd == [114, 109]) = false := beq_eq_false_iff_ne.2 hrm
  have eput : (cmd == [112, 117, 116]) = false := beq_eq_false_iff_ne.2 hput
  have echmod : (cmd == [99, 104, 109, 111, 100]) = false := beq_eq_false_iff_ne.2 hchmod
  have eexit : (cmd == [101, 120, 105, 116]) = false := beq_eq_false_iff_ne.2 hexit
  clear hecho hwhoami hcat hls hmkdir hrm hput hchmod hexit
  subst hb
  go_enter Tryz.func115, Tryz.ntmps115
  go_wp2
  go_ret2
  exact ⟨by rw [HU.out]; rfl, World.grownBy.refl w none⟩
end Go.Proofs.YtlkchajkhplapaaGreatDoor
