/- Authenticators that came in; the walk of ReplayLater. -/
import Derived.Test.YtgamlioahdbikaaRyf
import Derived.Test.YtgamlioahdbikaaSlr
namespace Go.Proofs.Ytgamlioahdbikaa
open Go.ChangeShapes Go.WideShapes Go.RowKit Go.Maps

/-- What is known of an authenticator that came in. -/
structure auW (a : Au) : Prop where
  lk : a.2.2.2.length = 16
  ti : I64 a.2.1
  no : 0 ≤ a.2.2.1 ∧ a.2.2.1 ≤ 18446744073709551615
theorem auW.ok {a : Au} (h : auW a) (hc : a.1.length ≤ 1000) : auOk a := ⟨hc, h.lk, h.ti, h.no⟩
theorem auC_len {a : Au} (h : auW a) : (auC a).length = 19 := acells_length _ _ _ _ h.lk
def byteOf (v : Value) : UInt8 := match v with
  | .int _ n => UInt8.ofNat n.toNat
  | _ => 0
section
variable {H : Type} {enc : TypeId × Value → H} {w : World} {base : Nat} {spare : Nat → Bool} {held : Bool}
theorem arr_of_trod {P : Program} {t e : TypeId} {n fuel : Nat} {cs : List Value} {x : DataW H × List MemPlace}
    (ht : P.underlying t = some (.array n e)) (he : P.underlying e = some (.int .u8)) (hce : P.cellsOf e = 1) (hlen0 : cs.length = n) (h : DataW.trod enc P w base spare held fuel t cs = some x) :
    ∃ l : List UInt8, cs = bcells l ∧ l.length = n := by
  obtain ⟨xs, m, _, _, hlen, hxl, hg⟩ := DataW.trod_array ht h
  refine ⟨cs.map byteOf, ?_, by simp [hlen0]⟩
  apply List.ext_getElem
  · simp [bcells]
  · intro i h1 h2
    have hi : i < n := by omega
    have hx := hg i hi
    rw [hce, Nat.mul_one] at hx
    have hd : (cs.drop i).take 1 = [cs[i]] := by
      rw [List.drop_eq_getElem_cons h1, List.take_succ_cons, List.take_zero]
    rw [hd, List.getElem?_eq_getElem (by omega)] at hx
    obtain ⟨k, hk, _, hwf⟩ := DataW.trod_int he hx
    simp only [List.cons.injEq, and_true] at hk
    have hb := bounds_u8 hwf
    have hk2 : (bcells (cs.map byteOf))[i]'h2 = Value.int .u8 ((byteOf cs[i]).toNat : Int) := by simp [bcells]
    rw [hk2, hk]
    congr 1
    simp only [byteOf]
    rw [UInt8.toNat_ofNat']
    omega
theorem drop_step (cs : List Value) (a n : Nat) : cs.drop a = (cs.drop a).take n ++ cs.drop (a + n) := by rw [← List.drop_drop, List.take_append_drop]
set_option maxRecDepth 10000 in
theorem auth_of_trod {fuel : Nat} {cs : List Value} {x : DataW H × List MemPlace} (hlen : cs.length = 19) (hf0 : DataW.trod enc Try.prog w base spare held fuel 35 cs = some x) : ∃ u : Au, cs = auC u ∧ auW u := by
  obtain ⟨xs, n, _, _, _, hxl, hf⟩ := DataW.trod_struct Try.underlying35 hf0
  have hC1 : Try.prog.cellsOf 33 = 16 := by kernel_rfl
  have hC2 : Try.prog.cellsOf 2 = 1 := by kernel_rfl
  have hC3 : Try.prog.cellsOf 9 = 1 := by kernel_rfl
  have hC4 : Try.prog.cellsOf 31 = 1 := by kernel_rfl
  match xs, hxl with
  | [y0, y1, y2, y3], _ =>
    have h0 := hf 0 _ rfl
    change DataW.trod enc Try.prog w base spare held n 9 (List.take (Try.prog.cellsOf 9) (List.drop 0 cs)) = some y0 at h0
    rw [hC3] at h0
    obtain ⟨c, e0, _, _⟩ := DataW.trod_string Try.underlying9 h0
    have h1 := hf 1 _ rfl
    change DataW.trod enc Try.prog w base spare held n 2 (List.take (Try.prog.cellsOf 2) (List.drop 1 cs)) = some y1 at h1
    rw [hC2] at h1
    obtain ⟨ti, e1, _, w1⟩ := DataW.trod_int Try.underlying2 h1
    have h2 := hf 2 _ rfl
    change DataW.trod enc Try.prog w base spare held n 31 (List.take (Try.prog.cellsOf 31) (List.drop 2 cs)) = some y2 at h2
    rw [hC4] at h2
    obtain ⟨no, e2, _, w2⟩ := DataW.trod_int Try.underlying31 h2
    have h3 := hf 3 _ rfl
    change DataW.trod enc Try.prog w base spare held n 33 (List.take (Try.prog.cellsOf 33) (List.drop 3 cs)) = some y3 at h3
    rw [hC1] at h3
    obtain ⟨k, e3, hk⟩ := arr_of_trod Try.underlying33 Try.underlying5 (by kernel_rfl) (by rw [List.length_take, List.length_drop, hlen]; rfl) h3
    refine ⟨(c.data.toList, ti, no, k), ?_, ⟨hk, I64.of w1, bounds_u64 w2⟩⟩
    have hall : cs.drop 0 = acells c k ti no := by
      rw [drop_step cs 0 1, e0, show 0 + 1 = 1 from rfl]
      rw [drop_step cs 1 1, e1, show 1 + 1 = 2 from rfl]
      rw [drop_step cs 2 1, e2, show 2 + 1 = 3 from rfl]
      rw [drop_step cs 3 16, e3, show 3 + 16 = 19 from rfl]
      rw [List.drop_eq_nil_of_le (by omega)]
      simp [acells]
    rw [List.drop_zero] at hall
    rw [hall]
    rfl
theorem auths_of_trod {A : Option Addr} {len cap : Nat} {d : DataW H} {p : List MemPlace} (h : DataW.Trod enc Try.prog w base spare held 28 (.slice A len cap) d p) :
    ∃ us : List Au, us.length = len ∧ SR w w.heap.size A 19 (us.map auC) cap ∧ ∀ u ∈ us, auW u :=
  SR.of_trod Try.underlying28 (by kernel_rfl) (by omega) auC auW (fun _ h => auC_len h) (fun _ _ _ hl hx => auth_of_trod hl hx) h
end

theorem auC_time (u : Au) (t : Int) : over (auC u) 1 [.int .i64 t] = auC (u.1, t, u.2.2.1, u.2.2.2) := rfl

set_option maxRecDepth 10000 in
set_option maxHeartbeats 2000000 in
theorem later_in (w : World) (A : Option Addr) (us : List Au) (n cap : Nat) (now : Int) (hn : us.length = n) (hA : SR w w.heap.size A 19 (us.map auC) cap) (hus : ∀ u ∈ us, auW u) (h0 : n ≤ 100) (h1 : 0 ≤ now) (h2 : now ≤ 1099511627776) :
    Calls Try.prog 5 #[.slice A n cap, .int .i64 now] w fun e w' => e = .returned (.bool true) ∧ w.grownBy w' none := by
  have t0 : decide ((100 : Int) < (n : Int)) = false := decide_eq_false (by omega)
  have t1 : decide (now < 0) = false := decide_eq_false (by omega)
  have t2 : decide (1099511627776 < now) = false := decide_eq_false (by omega)
  have HN := Lib.hid hn
  have HA := Lib.hid hA
  have HUS := Lib.hid hus
  have N0 := Lib.hid h0
  have N1 := Lib.hid h1
  have N2 := Lib.hid h2
  have IN := Lib.hid (show I64 now by unfold I64; omega)
  clear hn hA hus h0 h1 h2
  go_enter Try.func5, Try.ntmps5
  go_wp2_with (first
    | (go_at_call 7; refine (speaks_any _).mono ?_; rintro e wa ⟨rfl, ga⟩; have GA := Lib.hid ga; clear ga)
    | (go_at_call 9; refine (new_any now _).mono ?_; rintro e w1 ⟨rfl, h1, g1⟩; have H1 := Lib.hid h1; have G1 := Lib.hid (grown_trans' GA.out g1); clear h1 g1))
  clear t0 t1 t2
  obtain ⟨c, hc⟩ : ∃ c, wa.heap.size + 1 = c := ⟨_, rfl⟩
  obtain ⟨b, hb⟩ : ∃ b, wa.heap.size = b := ⟨_, rfl⟩
  have HCE := Lib.hid (show w.heap.size ≤ c ∧ w.heap.size ≤ b by have := GA.out.size; omega)
  rw [hc, hb] at H1
  rw [hc]
  clear hc hb
  go_loopw [28] (fun v wr => ∃ (k : Nat) (s : St), k ≤ n ∧ v = .int .i64 k ∧ CS wr c b s ∧ AllBy s (now + 10) ∧ s.cl = false ∧ s.M.length ≤ 16 ∧ w.grownBy wr none) (fun v _ => n - (intOf v).toNat)
  case atStart => exact ⟨0, _, Nat.zero_le _, rfl, H1.out, (fun x h => by cases h), rfl, (by simp), G1.out⟩
  case round =>
    obtain ⟨k, s, hk, rfl, hS, hby, hcl, hlen, hW⟩ := hrel
    have HS := Lib.hid hS
    have HW := Lib.hid hW
    have HBY := Lib.hid hby
    have HCL := Lib.hid hcl
    have HLEN := Lib.hid hlen
    have hn1 := N1.out
    have hn2 := N2.out
    have hn0 := N0.out
    by_cases hlt : k < n
    · obtain ⟨u, hu⟩ : ∃ u, u = us[k]'(by rw [HN.out]; exact hlt) := ⟨_, rfl⟩
      obtain ⟨ab, ao, hAe, hab, hcells⟩ := HA.out.elem (k := k) (by rw [List.length_map, HN.out]; exact hlt)
      have HUW := Lib.hid (show auW u by rw [hu]; exact HUS.out _ (List.getElem_mem _))
      have hce : (us.map auC)[k]'(by rw [List.length_map, HN.out]; exact hlt) = auC u := by rw [List.getElem_map, hu]
      rw [hce] at hcells
      have HCELL := Lib.hid (show ∀ j v, (auC u)[j]? = some v → wr.cell? ⟨ab, ao + 19 * k + j, none⟩ = some v from fun j v hj => ((below_of_none HW.out).cell (p := ⟨ab, _, none⟩) hab).trans (hcells j v hj))
      have HNC := Lib.hid (show wr.heap.size ≠ c from fun e => by have := hS.1.lt; omega)
      have HNB := Lib.hid (show wr.heap.size ≠ b from fun e => by have := hS.2.1.lt; omega)
      subst hAe
      clear hS hW hby hcl hlen hce hcells hu hab
      have HB1 := Lib.hid (CB.new wr 35 zeroA)
      by_cases h100 : 100 < u.1.length
      · have d1 : decide ((100 : Int) < (u.1.length : Int)) = true := decide_eq_true (by omega)
        clear h100
        go_wp2_with (first
          | (refine wpList_loadX (p := auC u) aggA rfl (.tmp 31) rfl (b := ab) (off := ao + 19 * k) HCELL.out (auC_len HUW.out) (by first | rfl | go_simp) ?_)
          | refine wpList_allocC zeroA_run rfl rfl ?_
          | (refine wpList_storeC (off := 0) (p := auC u) aggA.hi rfl (.tmp 7) (.tmp 32) rfl (.agg (auC u).toArray) rfl (auC_one u) HB1.out (auC_len HUW.out) (by rw [zeroA_length]; omega) (by first | rfl | go_simp) (by first | rfl | go_simp) ?_; intro w2 h2 g2; rw [over_all _ _ (Nat.le_of_eq (by rw [zeroA_length, auC_len HUW.out]))] at h2; have W2 := Lib.hid (none_new (grown_trans' HW.out (grown_alloc wr (.cells zeroA.toArray 35) none)) g2 HW.out.size); have q0 := h2.at_ (auC_c u); clear h2 g2))
        go_ret
        exact ⟨rfl, W2.out⟩
      · have d1 : decide ((100 : Int) < (u.1.length : Int)) = false := decide_eq_false (by omega)
        obtain ⟨u', hu'⟩ : ∃ u' : Au, u' = (u.1, now + (k : Int) % 21 - 10, u.2.2.1, u.2.2.2) := ⟨_, rfl⟩
        have HOV := Lib.hid (show over (auC u) 1 [.int .i64 (now + (k : Int) % 21 - 10)] = auC u' by rw [hu']; exact auC_time u _)
        have hok : auOk u' := by rw [hu']; exact ⟨by show u.1.length ≤ 1000; omega, HUW.out.lk, by show I64 (now + (k : Int) % 21 - 10); unfold I64; omega, HUW.out.no⟩
        have HOK := Lib.hid hok
        have HBY2 := Lib.hid (HBY.out.seen (a := u') (by rw [hu']; show now + (k : Int) % 21 - 10 ≤ now + 10; omega) now)
        have HCL2 := Lib.hid ((seen_cl s u' now).trans HCL.out)
        have HLEN2 := Lib.hid (seen_most (a := u') (now := now) HLEN.out)
        clear h100 hu' hok
        go_wp2_with (first
          | (refine wpList_loadX (p := auC u) aggA rfl (.tmp 31) rfl (b := ab) (off := ao + 19 * k) HCELL.out (auC_len HUW.out) (by first | rfl | go_simp) ?_)
          | refine wpList_allocC zeroA_run rfl rfl ?_
          | (refine wpList_storeC (off := 0) (p := auC u) aggA.hi rfl (.tmp 7) (.tmp 32) rfl (.agg (auC u).toArray) rfl (auC_one u) HB1.out (auC_len HUW.out) (by rw [zeroA_length]; omega) (by first | rfl | go_simp) (by first | rfl | go_simp) ?_; intro w2 h2 g2; rw [over_all _ _ (Nat.le_of_eq (by rw [zeroA_length, auC_len HUW.out]))] at h2; have B2 := Lib.hid h2; have S2 := Lib.hid ((HS.out.none (grown_alloc wr (.cells zeroA.toArray 35) none)).far g2 HNC.out HNB.out); have W2 := Lib.hid (none_new (grown_trans' HW.out (grown_alloc wr (.cells zeroA.toArray 35) none)) g2 HW.out.size); have q0 := h2.at_ (auC_c u); clear h2 g2)
          | (refine wpList_storeC (off := 1) (p := [.int .i64 (now + (k : Int) % 21 - 10)]) size1 rfl (.tmp 42) (.tmp 41) rfl (.int .i64 (now + (k : Int) % 21 - 10)) rfl (fun x hx => by rw [List.mem_singleton.1 hx]; rfl) B2.out rfl (by rw [auC_len HUW.out]; omega) (by first | rfl | go_simp) (by first | rfl | go_simp) ?_; intro w3 h3 g3; rw [HOV.out] at h3; have B3 := Lib.hid h3; have S3 := Lib.hid (S2.out.far g3 HNC.out HNB.out); have W3 := Lib.hid (none_new W2.out g3 HW.out.size); clear h3 g3 q0)
          | refine wpList_loadC (off := 0) (p := auC u') aggA rfl (.tmp 7) rfl B3.out (take_all (auC_length HOK.out)) (by rw [auC_length HOK.out]; omega) (by first | rfl | go_simp) ?_
          | (go_at_call 12; refine (seen_any _ c b s u' now S3.out HOK.out IN.out (by have := HLEN.out; omega)).mono ?_; rintro e w4 ⟨rfl, h4, g4⟩; have S4 := Lib.hid h4; have W4 := Lib.hid (none_new W3.out g4 HCE.out.2); clear h4 g4))
        go_roundw
        case rel => exact ⟨k + 1, _, by omega, by go_num, S4.out, HBY2.out, HCL2.out, HLEN2.out, W4.out⟩
        case measure => simp [intOf]; omega
    · have HB2 := Lib.hid (show I64 (now + 21) by unfold I64; omega)
      have HUX := Lib.hid (show auOk (xR, now + 21, 0, z16) from ⟨by simp [xR], by simp [z16], HB2.out, (by show (0 : Int) ≤ 0 ∧ (0 : Int) ≤ 18446744073709551615; decide)⟩)
      have HR := Lib.hid (later_new hby hcl (xR, now + 21, 0, z16) rfl)
      clear hS hW hby hcl hlen
      go_wp2_with (first
        | (go_at_call 12; refine (seen_at _ c b s _ (xR, now + 21, 0, z16) (now + 21) _ _ (cellsF_eq _ _) HS.out HUX.out HB2.out (by have := HLEN.out; omega) HR.out).mono ?_; rintro e w4 ⟨rfl, h4, g4⟩; have S4 := Lib.hid h4; have W4 := Lib.hid (none_new HW.out g4 HCE.out.2); clear h4 g4)
        | (go_at_call 14; refine (len_any _ _ _ _ S4.out).mono ?_; rintro e w5 ⟨rfl, rfl⟩))
      go_ret
      exact ⟨rfl, W4.out⟩

set_option maxRecDepth 10000 in
set_option maxHeartbeats 400000 in
theorem later_out (w : World) (A : Option Addr) (n cap : Nat) (now : Int) (h : 100 < n ∨ now < 0 ∨ 1099511627776 < now) :
    Calls Try.prog 5 #[.slice A n cap, .int .i64 now] w fun e w' => e = .returned (.bool true) ∧ w.grownBy w' none := by
  by_cases h0 : 100 < n
  · have t0 : decide ((100 : Int) < (n : Int)) = true := decide_eq_true (by omega)
    clear h0 h
    go_enter Try.func5, Try.ntmps5
    go_wp2_with (go_at_call 7; refine (speaks_any _).mono ?_; rintro e wa ⟨rfl, ga⟩; have GA := Lib.hid ga; clear ga)
    go_ret
    exact ⟨rfl, GA.out⟩
  · have t0 : decide ((100 : Int) < (n : Int)) = false := decide_eq_false (by omega)
    by_cases h1 : now < 0
    · have t1 : decide (now < 0) = true := decide_eq_true h1
      clear h0 h h1
      go_enter Try.func5, Try.ntmps5
      go_wp2_with (go_at_call 7; refine (speaks_any _).mono ?_; rintro e wa ⟨rfl, ga⟩; have GA := Lib.hid ga; clear ga)
      go_ret
      exact ⟨rfl, GA.out⟩
    · have t1 : decide (now < 0) = false := decide_eq_false h1
      have t2 : decide (1099511627776 < now) = true := decide_eq_true (by omega)
      clear h0 h h1
      go_enter Try.func5, Try.ntmps5
      go_wp2_with (go_at_call 7; refine (speaks_any _).mono ?_; rintro e wa ⟨rfl, ga⟩; have GA := Lib.hid ga; clear ga)
      go_ret
      exact ⟨rfl, GA.out⟩
theorem walk_ReplayLater (w : World) (A : Option Addr) (us : List Au) (cap : Nat) (hA : SR w w.heap.size A 19 (us.map auC) cap) (hus : ∀ u ∈ us, auW u) (now : Int) (_ : (Lit.int .i64 now).wf = true) :
    Calls Try.prog 5 #[.slice A us.length cap, .int .i64 now] w fun e w' => e = .returned (.bool true) ∧ Below w.heap.size w w' := by
  by_cases h : 100 < us.length ∨ now < 0 ∨ 1099511627776 < now
  · exact (later_out w A us.length cap now h).mono fun _ _ ⟨he, hg⟩ => ⟨he, below_of_none hg⟩
  · exact (later_in w A us us.length cap now rfl hA hus (by omega) (by omega) (by omega)).mono fun _ _ ⟨he, hg⟩ => ⟨he, below_of_none hg⟩
end Go.Proofs.Ytgamlioahdbikaa
