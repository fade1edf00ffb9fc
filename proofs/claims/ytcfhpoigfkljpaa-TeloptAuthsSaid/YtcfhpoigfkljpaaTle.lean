/- The walks of NewReader and of Feed. -/
import Derived.Test.YtcfhpoigfkljpaaTld
namespace Go.Proofs.Ytcfhpoigfkljpaa
open Go.ChangeShapes Go.WideShapes Go.RowKit

theorem newReader_any (w : World) : Calls Try.prog 11 #[] w fun e w' => e = .returned (.pointer (some ⟨w.heap.size, 0, none⟩)) ∧ RD w' w.heap.size w.heap.size (.slice none 0 0) ts0 ∧ w.grownBy w' none := by
  go_enter Try.func11, Try.ntmps11
  go_wp2
  go_ret
  exact ⟨rfl, ⟨Nat.le_refl _, CB.new w 60 [.int .i64 0, .int .i64 0, .int .i64 0, .int .i64 0, .slice none 0 0, .int .i64 0], OwnB.nil_ _ _ _⟩, grown_alloc _ _ _⟩

section
variable {w : World} {b2 base r : Nat} {pv v : Value} {vs : List Value} {s : Ts} {ps : List Tl} {c : UInt8}
theorem evs_take (s : Ts) (l : List UInt8) (k : Nat) (h : k < l.length) (he : (endT s (l.take k)).err = 0) :
    endT s (l.take (k + 1)) = (step (endT s (l.take k)) l[k]).1 ∧ putF (evs s (l.take (k + 1))) = joins (putF (evs s (l.take k))) (step (endT s (l.take k)) l[k]).2 := by
  rw [List.take_succ_eq_append_getElem h, endT_app, evs_app, endT_one he, evs_one he, joins_eq]
  exact ⟨rfl, rfl⟩
theorem data_le_sum {l : List Tl} {q : Tl} (h : q ∈ l) : q.data.length ≤ sumD l := by
  obtain ⟨a, b, rfl⟩ := List.append_of_mem h
  simp [sumD]
  omega
theorem sumD_put (l : List Tl) : sumD (putF l) = sumD l := by
  induction h : l.length generalizing l with
  | zero => rw [List.eq_nil_of_length_eq_zero h]; rfl
  | succ n ih =>
    obtain ⟨X, p, rfl⟩ : ∃ X p, l = X ++ [p] := ⟨l.dropLast, l.getLast (by intro e; simp [e] at h), (List.dropLast_concat_getLast _).symm⟩
    rw [putF_snoc, join_sum, ih X (by simp at h; exact h), sumD_app]
    simp [sumD]
theorem step_data {s : Ts} (h : OkT s) (c : UInt8) : sumD (step s c).2.toList ≤ 3000 := by
  have hd := h.data
  unfold step
  repeat' split
  all_goals simp [sumD]
  all_goals omega
theorem sumD_evs {s : Ts} (h : OkT s) (d : List UInt8) : sumD (evs s d) ≤ 3000 * d.length := by
  induction d generalizing s with
  | nil => simp [evs, run, sumD]
  | cons c d ih =>
    by_cases he : s.err ≠ 0
    · rw [evs_stop he]; simp [sumD]
    · have he : s.err = 0 := by omega
      rw [show c :: d = [c] ++ d from rfl, evs_app, evs_one he, endT_one he, sumD_app]
      have := ih (h.step he c)
      have := step_data h c
      simp
      omega
theorem ok_put {s : Ts} (h : OkT s) (d : List UInt8) (hl : d.length ≤ 1000000) : OkP (putF (evs s d)) := by
  refine ⟨Nat.le_trans (putF_length _) (Nat.le_trans (evs_length _ _) hl), fun q hq => ?_⟩
  have h1 := data_le_sum hq
  have h2 := sumD_evs h d
  rw [sumD_put] at h1
  omega

/-- What a Feed comes to. -/
def FdR (w w' : World) (base r : Nat) (pv : Value) (s : Ts) (l : List UInt8) (e : Ending) : Prop :=
  ∃ pv' vf vs', e = .returned (.tuple #[vf, .int .i64 (endT s l).err]) ∧ RD w' base r pv' (endT s l) ∧ OwnP w' w.heap.size base vs' vf (feedT s l) ∧
      Mod (rdS r pv) w w' ∧ Nw w pv pv' ∧ (∀ u ∈ vs', ∀ g, u.ownBlock = some g → (pv.ownBlock = some g ∨ w.heap.size ≤ g) ∧ pv'.ownBlock ≠ some g)
set_option maxHeartbeats 4000000 in
theorem feed_any (h : RD w base r pv s) (hs : OkT s) (hb : base ≤ w.heap.size) (A : Option Addr) (l : List UInt8) (n cap : Nat) (hn : l.length = n) (hr : RB w w.heap.size A l cap) (ha : ∀ a, A = some a → 0 < l.length → a.block ≠ r ∧ pv.ownBlock ≠ some a.block) (hnl : n ≤ 1000000) :
    Calls Try.prog 12 #[.pointer (some ⟨r, 0, none⟩), .slice A n cap] w fun e w' => FdR w w' base r pv s l e := by
  have X0 := Lib.hid (show TX w w.heap.size base r pv (.slice none 0 0) [] s (putF (evs s (l.take 0))) from ⟨h, OwnP.nil_ _ _ _, List.pairwise_singleton _ _⟩)
  have HR := Lib.hid hr
  have HA := Lib.hid ha
  have HN := Lib.hid hn
  have HS := Lib.hid hs
  have HB := Lib.hid hb
  have HL := Lib.hid h.lt.2
  have hni : (n : Int) ≤ 1000000 := by omega
  clear h hr ha hn hs hb
  go_enter Try.func12, Try.ntmps12
  go_wp2
  go_loopw [6, 8, 11] (fun s6 _ s11 wr => ∃ (k : Nat) (pv' : Value) (vs' : List Value), s11 = .int .i64 k ∧ k ≤ n ∧ TX wr w.heap.size base r pv' s6 vs' (endT s (l.take k)) (putF (evs s (l.take k))) ∧ Mod (rdS r pv) w wr ∧ Nw w pv pv' ∧ NwL w (pv :: []) vs') (fun _ _ s11 _ => n - (intOf s11).toNat)
  case atStart => exact ⟨0, pv, [], rfl, Nat.zero_le _, X0.out, Mod.refl _ _, Nw.refl _ _, fun u hu => by cases hu⟩
  case round =>
    obtain ⟨k, pv1, vs1, rfl, hk, hx, hm, hw, hl⟩ := hrel
    have XX := Lib.hid hx
    have MM := Lib.hid hm
    have NN := Lib.hid hw
    have NL := Lib.hid hl
    obtain ⟨e1, he1⟩ : ∃ e1, (endT s (l.take k)).err = e1 := ⟨_, rfl⟩
    have k5 : wr.cell? ⟨r, 5, none⟩ = some (.int .i64 e1) := by rw [← he1]; exact hx.rd.2.1.at_ rfl
    have HE := Lib.hid he1
    by_cases hkn : k < n
    · have hki : (k : Int) < (n : Int) := by omega
      have hkl : k < l.length := by rw [HN.out]; exact hkn
      obtain ⟨b, off, rfl, hbb, hc⟩ := HR.out.open_ (by omega)
      obtain ⟨c, hcv⟩ : ∃ c, c = l[k] := ⟨_, rfl⟩
      have hck := hc k hkl
      rw [← hcv] at hck
      have hap := HA.out _ rfl (by omega)
      have k0 : wr.cell? ⟨b, off + k, none⟩ = some (.int .u8 (c.toNat : Int)) :=
        (World.cell?_of_block (hm.block b hbb (fun e => by rcases e with e | e; exact hap.1 e; exact hap.2 e))).trans hck
      by_cases he0 : e1 = 0
      · subst he0
        have OK := Lib.hid (ok_put HS.out (l.take k) (by rw [List.length_take]; omega))
        have OKT := Lib.hid (HS.out.end_ (l.take k))
        have HT := Lib.hid (evs_take s l k hkl HE.out)
        rw [← hcv] at HT
        clear hx hm hw hl hc hck hap hcv hkl hbb he1
        go_wp2_with (go_at_call 25; refine (take_any XX.out OKT.out HE.out OK.out (Nat.le_trans HB.out MM.out.size) MM.out.size c).mono ?_; rintro e wz ⟨vz, rfl, rz⟩; have RZ := Lib.hid rz; clear rz)
        go_roundw
        case rel =>
          obtain ⟨pv2, vs2, x2, m2, n1, n2, n3⟩ := RZ.out
          have hv1 := XX.out.row.lt
          refine ⟨k + 1, pv2, vs2, by go_num, by omega, by rw [HT.out.1, HT.out.2]; exact x2, MM.out.next m2 (fun i hi e => ?_), NN.out.trans n1 MM.out.size, fun u hu g hg => ?_⟩
          · rcases e with (e | e) | e | ⟨u, hu, e⟩
            · exact .inl e
            · rcases NN.out i e with e | e
              · exact .inr e
              · omega
            · have := (hv1 i e).1; omega
            · rcases NL.out u hu i e with ⟨y, hy, e⟩ | e
              · rw [List.mem_singleton.1 hy] at e; exact .inr e
              · omega
          · rcases n3 u hu g hg with ⟨y, hy, e⟩ | e
            · rcases List.mem_cons.1 hy with rfl | hy
              · rcases NN.out g e with e | e
                · exact .inl ⟨pv, List.mem_singleton_self _, e⟩
                · exact .inr e
              · exact NL.out y hy g e
            · exact .inr (Nat.le_trans MM.out.size e)
        case measure => simp [intOf]; omega
      · have hee : endT s l = endT s (l.take k) := by
          rw [← List.take_append_drop k l, endT_app, List.take_append_drop, endT_stop (by rw [he1]; exact he0)]
        have hff : feedT s l = [] := by unfold feedT; rw [run_end, if_pos (by rw [hee, he1]; exact he0)]
        have HEE := Lib.hid hee
        have HFF := Lib.hid hff
        have HV := Lib.hid (show (endT s l).err = e1 by rw [hee, he1])
        have hne : (e1 == 0) = false := by rw [beq_eq_false_iff_ne]; exact he0
        clear hx hm hw hl hc hck hap hcv hkl hbb he1 hee hff
        go_wp2
        go_quiet (fail)
        go_wp2
        go_ret2
        have hm := MM.out.drewN nq
        exact ⟨pv1, _, [], by rw [HV.out]; rfl, by rw [HEE.out]; exact XX.out.rd, by rw [HFF.out]; exact OwnP.nil_ _ _ _, hm, NN.out, fun u hu => by cases hu⟩
    · obtain rfl : k = n := by omega
      have hki : ¬ (k : Int) < (k : Int) := by omega
      have hlt : l.take k = l := List.take_of_length_le (by rw [HN.out]; exact Nat.le_refl _)
      rw [hlt] at XX HE
      by_cases he0 : e1 = 0
      · subst he0
        have HFF := Lib.hid (show feedT s l = putF (evs s l) by unfold feedT; rw [run_end, if_neg (by rw [HE.out]; simp)])
        clear hx hm hw hl hlt he1
        go_wp2
        go_ret2
        refine ⟨pv1, _, vs1, by rw [HE.out]; rfl, XX.out.rd, by rw [HFF.out]; exact XX.out.row, MM.out, NN.out, fun u hu g hg => ⟨?_, fun e => (List.pairwise_cons.1 XX.out.ap).1 u hu g e hg⟩⟩
        rcases NL.out u hu g hg with ⟨y, hy, e⟩ | e
        · rw [List.mem_singleton.1 hy] at e; exact .inl e
        · exact .inr e
      · have HFF := Lib.hid (show feedT s l = [] by unfold feedT; rw [run_end, if_pos (by rw [HE.out]; exact he0)])
        have hne : (e1 == 0) = false := by rw [beq_eq_false_iff_ne]; exact he0
        clear hx hm hw hl hlt he1
        go_wp2
        go_quiet (fail)
        go_wp2
        go_ret2
        exact ⟨pv1, _, [], by rw [HE.out]; rfl, XX.out.rd, by rw [HFF.out]; exact OwnP.nil_ _ _ _, MM.out.drewN nq, NN.out, fun u hu => by cases hu⟩
end
end Go.Proofs.Ytcfhpoigfkljpaa
