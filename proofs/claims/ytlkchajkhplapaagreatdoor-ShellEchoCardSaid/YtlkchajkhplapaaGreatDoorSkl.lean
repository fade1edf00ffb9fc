/- The walk of ShellEcho. -/
import Derived.Test.YtlkchajkhplapaaGreatDoorSko
namespace Go.Proofs.YtlkchajkhplapaaGreatDoor
open Go.RowKit Go.Maps Go.WideMaps

theorem echo_words (l : List UInt8) : wds (pieces1 32 ([101, 99, 104, 111, 32] ++ l)) = cEcho :: wds (pieces1 32 l) := wds_word (x := cEcho) (by decide) (by decide) l
theorem put_words (l : List UInt8) : wds (pieces1 32 ([112, 117, 116, 32, 47, 102, 32] ++ l)) = cPut :: [47, 102] :: wds (pieces1 32 l) := by
  have h1 : wds (pieces1 32 ([112, 117, 116, 32, 47, 102, 32] ++ l)) = cPut :: wds (pieces1 32 ([47, 102] ++ 32 :: l)) := wds_word (x := cPut) (by decide) (by decide) _
  rw [h1, wds_word (by decide) (by decide)]
theorem echo_line {R0 R : Value → List UInt8 → Prop} {M M' : Tr} {who : ByteArray} {line out err : List UInt8} {code : Nat} {xs : List (List UInt8)} (h : LineR R0 R M who line out err code M') (hl : line.length ≤ 80) (hw : wds (pieces1 32 line) = cEcho :: xs) : out = Lib.join xs [32] ++ [10] ∧ code = 0 := by
  unfold LineR at h
  rw [if_neg (by omega), hw] at h
  have h : CmdR R0 R M who cEcho xs out err code M' := h
  unfold CmdR at h
  rw [usage_echo, if_neg (by decide), if_neg (by decide), if_pos rfl] at h
  exact ⟨h.1, h.2.2⟩
theorem echo_quiet : ¬ loudC cEcho := by unfold loudC; decide
set_option maxRecDepth 20000 in
set_option maxHeartbeats 8000000 in
theorem walk_ShellEcho (w : World) (htab : TI w) (s : ByteArray) : Calls Tryz.prog 7 #[.string s] w fun e w' => e = .returned (.bool true) ∧ Below w.heap.size w w' := by
  obtain ⟨n, hn⟩ : ∃ n, s.size = n := ⟨_, rfl⟩
  have HT := Lib.hid htab
  have TK0 := Lib.hid True.intro
  have SP := Lib.hid (shspeaks_any w htab)
  clear htab
  by_cases h60 : 60 < n
  · have h60i : (60 : Int) < (n : Int) := by omega
    go_enter Tryz.func7, Tryz.ntmps7
    go_wp2_with (go_at_call 30; refine SP.out.mono ?_; rintro e w0 ⟨rfl, g0⟩; have G0 := Lib.hid g0; clear g0)
    go_ret
    exact ⟨rfl, below_of_none G0.out⟩
  have h60i : ¬ (60 : Int) < (n : Int) := by omega
  have z1 : ¬ 9223372036854775807 < 5 + n := by omega
  have z2 : ¬ 9223372036854775807 < 7 + n := by omega
  obtain ⟨l, hl⟩ : ∃ l, s.data.toList = l := ⟨_, rfl⟩
  have hln : l.length = n := by rw [← hn, ← hl]; rfl
  have HL1 := Lib.hid (show ((⟨#[101, 99, 104, 111, 32]⟩ : ByteArray) ++ s).data.toList = [101, 99, 104, 111, 32] ++ l from app_bytes rfl hl)
  have HL2 := Lib.hid (show ((⟨#[112, 117, 116, 32, 47, 102, 32]⟩ : ByteArray) ++ s).data.toList = [112, 117, 116, 32, 47, 102, 32] ++ l from app_bytes rfl hl)
  have HN1 := Lib.hid (show ([101, 99, 104, 111, 32] ++ l).length ≤ 80 by rw [List.length_append]; simp; omega)
  have HN2 := Lib.hid (show ([112, 117, 116, 32, 47, 102, 32] ++ l).length ≤ 80 by rw [List.length_append]; simp; omega)
  obtain ⟨j, hj⟩ : ∃ j, Lib.join (wds (pieces1 32 l)) [32] = j := ⟨_, rfl⟩
  have hjl : j.length ≤ 61 := by
    rw [← hj]
    have h1 := join_le (wds (pieces1 32 l))
    have h2 := words_le l
    omega
  have HJ := Lib.hid hj
  obtain ⟨tc, htc⟩ : ∃ tc : ByteArray, tc = ⟨j.toArray⟩ := ⟨_, rfl⟩
  have HTC := Lib.hid htc
  have z3 : ¬ 9223372036854775807 < tc.size + 1 := by have : tc.size = j.length := by rw [htc]; exact List.size_toArray
                                                      omega
  have HE := Lib.hid (show (⟨(j ++ [10]).toArray⟩ : ByteArray) = tc ++ ⟨#[10]⟩ by rw [htc]; apply ByteArray.ext; simp)
  have HJL := Lib.hid hjl
  clear h60 hl hln hj htc hjl
  go_enter Tryz.func7, Tryz.ntmps7
  go_wp2_with (first
    | (go_at_call 30; refine SP.out.mono ?_; rintro e w0 ⟨rfl, g0⟩; have G0 := Lib.hid g0; have HT0 := Lib.hid (HT.out.on g0); clear g0)
    | (go_at_call 15; refine (new_any _).mono ?_; rintro e w1 ⟨tb, mb, b, rfl, t0⟩; have T1 := Lib.hid t0; clear t0)
    | (go_at_call 34; refine (snew_any T1.out).mono ?_; rintro e w2 ⟨sb, rfl, sg2⟩; have S2 := Lib.hid sg2; clear sg2)
    | (have hx := TK0; go_at_call 35
       refine (run_any S2.out (snd0 b) (by omega) HT0.out rootB (by decide) _ _ HL1.out (by have := HN1.out; omega)).mono ?_
       rintro e w3 ⟨ov, ev, out, err, code, M', rfl, ob, eb, sg, sn, kp, q, d⟩
       obtain ⟨rfl, rfl⟩ := echo_line d HN1.out (echo_words l)
       obtain ⟨rfl, -⟩ := q (quiet_of (echo_words l) echo_quiet)
       rw [HJ.out] at ob
       obtain ⟨A3, n3, c3, rfl, -⟩ := ob.open_
       obtain ⟨A4, n4, c4, rfl, -⟩ := eb.open_
       have S3 := Lib.hid sg
       have N3 := Lib.hid sn
       have O3 := Lib.hid ob
       clear hx TK0 ob eb sg sn kp q d
       have TK1 := Lib.hid True.intro)
    | (have hx := TK1; go_at_call 35
       refine (run_any S3.out N3.out (by omega) HT0.out rootB (by decide) _ _ HL2.out (by have := HN2.out; omega)).mono ?_
       rintro e w4 ⟨ov, ev, out, err, code, M', rfl, ob, eb, sg, sn, kp, q, d⟩
       obtain ⟨rfl, rfl, bf, v, rfl, hv⟩ := put_line d HN2.out (put_words l) (by rw [HJ.out]; have := HJL.out; omega)
       rw [HJ.out] at hv
       obtain ⟨A5, n5, c5, rfl, hz5⟩ := ob.open_
       obtain rfl : 0 = n5 := hz5
       obtain ⟨A6, n6, c6, rfl, -⟩ := eb.open_
       have S4 := Lib.hid sg
       have N4 := Lib.hid sn
       have HV := Lib.hid hv
       have O4 := Lib.hid (kp.ob O3.out (by decide))
       clear hx TK1 ob eb sg sn kp q d hv
       have TK2 := Lib.hid True.intro)
    | (have hx := TK2; go_at_call 35
       refine (run_any S4.out N4.out (by omega) HT0.out rootB (by decide) _ l2 rfl (by decide)).mono ?_
       rintro e w5 ⟨ov, ev, out, err, code, M', rfl, ob, eb, sg, sn, kp, q, d⟩
       obtain ⟨rfl, rfl⟩ := cat_line d (by decide) w2_eq HV.out
       obtain ⟨A7, n7, c7, rfl, -⟩ := ob.open_
       obtain ⟨A8, n8, c8, rfl, -⟩ := eb.open_
       obtain ⟨wz, hwz⟩ : ∃ x, x = ((w5.alloc (.cells #[.slice A3 n3 c3, .slice A4 n4 c4, .int .i64 0] 57)).alloc (.cells #[.slice A5 0 c5, .slice A6 n6 c6, .int .i64 0] 57)).alloc (.cells #[.slice A7 n7 c7, .slice A8 n8 c8, .int .i64 0] 57) := ⟨_, rfl⟩
       have gz : w5.grownBy wz none := by rw [hwz]; exact grown_trans' (grown_trans' (grown_alloc _ _ none) (grown_alloc _ _ none)) (grown_alloc _ _ none)
       have kv1 : (convert 29 9 (.slice A3 n3 c3)).run Tryz.prog wz = .ok (.string (tc ++ ⟨#[10]⟩)) wz := by
         rw [← HE.out]
         exact conv_ob ((Kp.none (ts := []) gz).ob (kp.ob O4.out (by decide)) (by simp))
       have kv2 : (convert 29 9 (.slice A7 n7 c7)).run Tryz.prog wz = .ok (.string tc) wz := by
         rw [HTC.out]
         exact conv_ob ((Kp.none (ts := []) gz).ob ob (by simp))
       have GZ := Lib.hid (G0.out.trans (sg.tg.gr.trans gz))
       rw [hwz] at kv1 kv2 GZ
       clear hx TK2 ob eb sg sn kp q d hwz gz
       have TK3 := Lib.hid True.intro))
  go_ret
  exact ⟨rfl, below_of_none GZ.out⟩
end Go.Proofs.YtlkchajkhplapaaGreatDoor
