/- The walk of TlvJoins. -/
import Derived.Test.YtmkdcnhhcfblgaaFrF
namespace Go.Proofs.Ytmkdcnhhcfblgaa
open Go.RowKit

theorem chk_ok {f : Fd} (h : chk f = 0) : 1 ≤ f.1 ∧ f.1 ≤ 255 ∧ f.2.length ≤ 65535 := by
  unfold chk at h
  split at h
  · exact absurd h (by decide)
  · split at h
    · exact absurd h (by decide)
    · omega
theorem firstOf_fieldB (f : Fd) (r : List UInt8) (hc : chk f = 0) : firstOf (fieldB f ++ r) = (f, r, 0) := by
  obtain ⟨t, v⟩ := f
  obtain ⟨h1, h2, h3⟩ := chk_ok hc
  simp only at h1 h2 h3
  have hne : UInt8.ofNat t.toNat ≠ 0 := by
    intro he
    have := congrArg UInt8.toNat he
    simp at this
    omega
  have e0 : fieldB (t, v) ++ r = UInt8.ofNat t.toNat :: UInt8.ofNat (v.length / 256) :: UInt8.ofNat v.length :: (v ++ r) := by simp [fieldB]
  rw [e0]
  have eN : (UInt8.ofNat (v.length / 256)).toNat * 256 + (UInt8.ofNat v.length).toNat = v.length := by simp; omega
  have et : (((UInt8.ofNat t.toNat).toNat : Nat) : Int) = t := (u8_of (by omega)).symm
  unfold firstOf
  simp only [List.headD_cons, List.getD_cons_succ, List.getD_cons_zero, List.drop_succ_cons, List.drop_zero, eN, et]
  rw [if_neg (by simpa using hne), if_neg (by simp), if_neg (by simp)]
  rw [show 3 + v.length = v.length + 1 + 1 + 1 by omega]
  simp only [List.drop_succ_cons]
  simp
theorem joinOf_ok : ∀ (fs : List Fd) (acc : List UInt8), (joinOf fs acc).2 = 0 → (joinOf fs acc).1 = acc ++ fs.flatMap fieldB ∧ ∀ f ∈ fs, chk f = 0
  | [], acc, _ => by simp [joinOf]
  | f :: fs, acc, h => by
    by_cases hc : chk f = 0
    · rw [joinOf, if_pos hc] at h ⊢
      obtain ⟨k1, k2⟩ := joinOf_ok fs _ h
      refine ⟨by rw [k1]; simp, fun x hx => ?_⟩
      rcases List.mem_cons.1 hx with rfl | hx
      · exact hc
      · exact k2 x hx
    · rw [joinOf, if_neg hc] at h; exact absurd h hc
theorem splitF_flat : ∀ (fs : List Fd) (f : Nat) (acc : List Fd), (∀ x ∈ fs, chk x = 0) → (fs.flatMap fieldB).length ≤ f → splitF f (fs.flatMap fieldB) acc = (acc ++ fs, 0)
  | [], f, acc, _, _ => by cases f <;> simp [splitF]
  | x :: fs, 0, acc, _, h => by
    have := fieldB_length x
    simp at h
    have h2 := h.1
    rw [h2] at this
    simp at this
  | x :: fs, f + 1, acc, hc, h => by
    have hx := hc x (List.mem_cons_self ..)
    have hlen := fieldB_length x
    simp only [List.flatMap_cons, List.length_append] at h ⊢
    have hne : fieldB x ++ fs.flatMap fieldB ≠ [] := by
      intro he
      have := congrArg List.length he
      simp at this
      rw [this.1] at hlen
      simp at hlen
    rw [splitF, if_neg hne, firstOf_fieldB x _ hx, if_pos rfl, splitF_flat fs f _ (fun y hy => hc y (List.mem_cons_of_mem _ hy)) (by omega)]
    simp
theorem splitOf_joinOf (fs : List Fd) (h : (joinOf fs []).2 = 0) : splitOf (joinOf fs []).1 = (fs, 0) := by
  obtain ⟨h1, h2⟩ := joinOf_ok fs [] h
  rw [h1, List.nil_append, splitOf, splitF_flat fs _ [] h2 (Nat.le_refl _)]
  rfl
theorem joinOf_len (fs : List Fd) : (joinOf fs []).1.length ≤ tot fs := by
  have : ∀ (fs : List Fd) (acc : List UInt8), (joinOf fs acc).1.length ≤ acc.length + tot fs := by
    intro fs
    induction fs with
    | nil => intro acc; simp [joinOf]
    | cons f fs ih =>
      intro acc
      unfold joinOf
      have ht : tot (f :: fs) = f.2.length + 3 + tot fs := by simp [tot]
      split
      · have := ih (acc ++ fieldB f)
        rw [List.length_append, fieldB_length] at this
        omega
      · simp
  simpa using this fs []

set_option maxRecDepth 100000 in
set_option maxHeartbeats 1000000 in
theorem walk_TlvJoins (w : World) (A : Option Addr) (fs : List Fd) (cap : Nat) (h : RF w w.heap.size A fs cap) (hb : ∀ f ∈ fs, -9223372036854775808 ≤ f.1 ∧ f.1 ≤ 9223372036854775807) :
    Calls Try.prog 4 #[.slice A fs.length cap] w fun e w' => e = .returned (.bool true) ∧ Below w.heap.size w w' := by
  have H := Lib.hid h
  have HBD := Lib.hid hb
  clear h hb
  go_enter Try.func4, Try.ntmps4
  go_wp2_with (go_at_call 10; refine (speaks_any _).mono ?_; rintro e w1 ⟨rfl, hb1⟩)
  have hs1 := hb1.size
  refine (great_any A fs cap w1 ((H.out.below hb1).more hs1)).mono ?_
  rintro e w1' ⟨rfl, rfl⟩
  cases hg : greatOf fs 0 with
  | true =>
    clear hg
    go_wp2
    go_ret
    exact ⟨rfl, hb1⟩
  | false =>
    obtain ⟨_, htot, hlens⟩ := greatOf_small fs 0 hg
    have HC := Lib.hid (copied_any A fs cap w1 ((H.out.below hb1).more hs1) (by omega) (fun f hf => by have := hlens f hf; omega))
    have hlj := joinOf_len fs
    have HSJ := splitOf_joinOf fs
    clear hg hlens
    go_wp2_with fail
    refine HC.out.mono ?_
    rintro e w2 ⟨x, rfl, hx, hb12⟩
    have hb2 := hb1.trans (hb12.mono hs1)
    have hs2 := hb2.size
    obtain ⟨X, cx, rfl, hrx, -⟩ := hx.shape
    have HX := Lib.hid hrx
    clear HC hx hrx hb12 hb1
    go_wp2_with fail
    refine (join_any X fs cx w2 HX.out HBD.out (by omega)).mono ?_
    rintro e w3 ⟨b, rfl, hownb, hb23⟩
    have hb3 := hb2.trans (hb23.mono hs2)
    have hs3 := hb3.size
    have hs23 := hb23.size
    have HX3 := Lib.hid (HX.out.below hb23)
    have HOB := Lib.hid hownb
    clear hownb hb23 hb2
    go_wp2_with fail
    refine (refJoin_any A fs cap w3.heap.size w3 ((H.out.below hb3).more hs3) (Nat.le_refl _) HBD.out (by omega)).mono ?_
    rintro e w4 ⟨c, rfl, hownc, hb34⟩
    have hb4 := hb3.trans (hb34.mono hs3)
    have hs34 := hb34.size
    have hs4 := hb4.size
    obtain ⟨Bb, cb, rfl, hrb, -⟩ := (HOB.out.below hb34).shape
    obtain ⟨Cc, cc, rfl, hrc, -⟩ := hownc.shape
    have HX4 := Lib.hid (HX3.out.below (hb34.mono hs23))
    have HRB := Lib.hid hrb
    have q1 := run_strB byteT Try.underlying9 hrb
    have q2 := run_strB byteT Try.underlying9 hrc
    have HB4 := Lib.hid hb4
    clear hownc hrc hrb hb34 hb3 hb4 HX HX3 HOB
    generalize joinOf fs [] = jn at *
    obtain ⟨bs, en⟩ := jn
    simp only at *
    go_wp2_with fail
    refine (same_any X A fs cx cap fs.length fs.length w4.heap.size w4 rfl rfl (HX4.out.more (by omega)) ((H.out.below HB4.out).more hs4) (Nat.le_refl _)).mono ?_
    rintro e w5 ⟨rfl, hb45⟩
    have HB5 := Lib.hid (HB4.out.trans (hb45.mono hs4))
    have hs5 := HB5.out.size
    have HRB5 := Lib.hid (HRB.out.below hb45)
    have hs45 := hb45.size
    clear hb45 q1 q2
    by_cases he : en = 0
    · subst he
      have hsp := HSJ rfl
      have HSP := Lib.hid (split_any Bb bs cb bs.length w5 rfl (HRB5.out.more hs45) (by omega))
      rw [hsp] at HSP
      clear hsp HSJ
      go_wp2_with fail
      refine HSP.out.mono ?_
      rintro e w6 ⟨z, rfl, hz, hb56⟩
      have hs56 := hb56.size
      have HB6 := Lib.hid (HB5.out.trans (hb56.mono hs5))
      have hs6 := HB6.out.size
      obtain ⟨Z, cz, rfl, hrz, -⟩ := hz.shape
      have HZ := Lib.hid hrz
      clear HSP hz hrz hb56
      go_wp2_with fail
      refine (same_any Z A fs cz cap fs.length fs.length w6.heap.size w6 rfl rfl HZ.out ((H.out.below HB6.out).more hs6) (Nat.le_refl _)).mono ?_
      rintro e w7 ⟨rfl, hb67⟩
      have hend := HB6.out.trans (hb67.mono hs6)
      clear hb67
      go_wp2_with fail
      go_ret
      exact ⟨rfl, hend⟩
    · have hne : (en == 0) = false := by rw [beq_eq_false_iff_ne]; exact he
      clear HSJ he
      go_wp2
      go_ret
      exact ⟨rfl, HB5.out⟩
end Go.Proofs.Ytmkdcnhhcfblgaa
