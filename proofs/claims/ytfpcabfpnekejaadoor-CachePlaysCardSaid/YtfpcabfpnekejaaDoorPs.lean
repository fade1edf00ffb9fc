/- The walk of Parse. -/
import Derived.Test.YtfpcabfpnekejaaDoorTx
import Derived.Test.YtfpcabfpnekejaaDoorCb
namespace Go.Proofs.YtfpcabfpnekejaaDoor
open Go.RowKit

/-- The library's own variable holds some number. -/
def ML (w : World) : Prop := ∃ m, w.cell? ⟨0, 0, none⟩ = some (.int .i64 m)
theorem ML.lt {w : World} (h : ML w) : 0 < w.heap.size := let ⟨_, hm⟩ := h; World.block_lt_of_cell? w _ hm
theorem ML.below {w w' : World} (h : ML w) (hb : Below w.heap.size w w') : ML w' := let ⟨m, hm⟩ := h; ⟨m, (hb.cell (show (⟨0, 0, none⟩ : Addr).block < w.heap.size from h.lt)).trans hm⟩
theorem pieces1_mem (c : UInt8) : ∀ (l : List UInt8) (p : List UInt8), p ∈ pieces1 c l → p.length ≤ l.length
  | [], p, h => by simp [pieces1] at h; subst h; simp
  | b :: l, p, h => by
    rw [pieces1] at h
    by_cases e : b = c
    · rw [if_pos e] at h
      rcases List.mem_cons.1 h with rfl | h
      · simp
      · have := pieces1_mem c l p h; simp; omega
    · rw [if_neg e] at h
      cases hp : pieces1 c l with
      | nil => exact absurd hp (pieces1_ne c l)
      | cons q qs =>
        rw [hp] at h
        rcases List.mem_cons.1 h with rfl | h
        · have := pieces1_mem c l q (by rw [hp]; simp); simp; omega
        · have := pieces1_mem c l p (by rw [hp]; exact List.mem_cons_of_mem _ h); simp; omega
theorem cut1_len (c : UInt8) : ∀ l : List UInt8, (cut1 c l).1.length ≤ l.length ∧ (cut1 c l).2.1.length ≤ l.length
  | [] => by simp [cut1]
  | b :: l => by
    have := cut1_len c l
    rw [cut1]
    split
    · simp
    · simp; omega
theorem NS.newS (w : World) (t : TypeId) (ls : List ByteArray) (n : Nat) (hn : ls.length = n) (hm : n ≤ 1000000) : NS (w.alloc (.cells (ls.map Value.string).toArray t)) (w.alloc (.cells (ls.map Value.string).toArray t)).heap.size (some ⟨w.heap.size, 0, none⟩) ls n := by
  subst hn
  refine ⟨Nat.le_refl _, by unfold maxLen; omega, .inr ⟨_, rfl, fun k s hs => ⟨by rw [World.size_alloc]; exact Nat.lt_succ_self _, ?_⟩⟩⟩
  rw [Addr.add_lit, cell_of_row (w.alloc (.cells (ls.map Value.string).toArray t)) w.heap.size (0 + k) (ls.map Value.string).toArray t (0, 0) (heap_alloc_new w _)]
  simp [hs]
theorem cut_n (s : ByteArray) (l : List UInt8) (hl : s.data.toList = l) (w : World) (hM : ML w) (hs : l.length ≤ 1000000) :
    Calls Tryd.prog 35 #[.string s, .string ⟨#[64]⟩] w fun e w' => ∃ (a b : ByteArray) (f : Bool) (q : Nat), e = .returned (.tuple #[.string a, .string b, .bool f]) ∧ a.data.toList = (cut1 64 l).1 ∧ b.data.toList = (cut1 64 l).2.1 ∧ w' = w.drewN q := by
  obtain ⟨m, hm⟩ := hM
  have hsz : s.size = l.length := by rw [← hl]; rfl
  refine (sh_strings_Cut s ⟨#[64]⟩ m w (by omega) hm).mono ?_
  rintro e w' ⟨rfl, q, rfl⟩
  rw [hl]
  have hc : Lib.cut l (ByteArray.mk #[64]).data.toList = cut1 64 l := lib_cut 64 l
  rw [hc]
  exact ⟨_, _, _, q, rfl, rfl, rfl, rfl⟩
theorem split_n (s : ByteArray) (l : List UInt8) (hl : s.data.toList = l) (w : World) (hM : ML w) (hs : l.length ≤ 1000) :
    Calls Tryd.prog 36 #[.string s, .string ⟨#[47]⟩] w fun e w' => ∃ (ls : List ByteArray) (n : Nat), e = .returned (.slice (some ⟨w.heap.size, 0, none⟩) n n) ∧ ls.length = n ∧ n ≤ 1001 ∧ dl ls = pieces1 47 l ∧ w' = w.alloc (.cells (ls.map Value.string).toArray 9) := by
  obtain ⟨m, hm⟩ := hM
  have hsz : s.size = l.length := by rw [← hl]; rfl
  refine (sh_strings_Split s ⟨#[47]⟩ m w (by omega) hm (Nat.le_refl _)).mono ?_
  rintro e w' ⟨rfl, rfl⟩
  have hc : Lib.countB s ⟨#[47]⟩ = l.count 47 := by
    show Lib.count s.data.toList (ByteArray.mk #[47]).data.toList = _
    rw [hl]
    exact countFrom_one 47 _ l (Nat.lt_succ_self _)
  have hd : dl (Lib.splitB ⟨#[47]⟩ 0 (Lib.countB s ⟨#[47]⟩) s) = pieces1 47 l := by
    rw [dl, Lib.splitB_data, hl, hc]
    exact splitK_one 47 _ l (Nat.le_refl _)
  have hn : (Lib.splitB ⟨#[47]⟩ 0 (Lib.countB s ⟨#[47]⟩) s).length = Lib.countB s ⟨#[47]⟩ + 1 := by
    rw [← dl_length, hd, pieces1_length, hc]
  refine ⟨_, _, rfl, hn, ?_, hd, rfl⟩
  have := List.count_le_length (l := l) (a := (47 : UInt8))
  omega
set_option maxHeartbeats 400000 in
theorem sclone_any (s : ByteArray) (w : World) (hs : s.size ≤ 1000000) : Calls Tryd.prog 25 #[.string s] w fun e w' => e = .returned (.string s) ∧ Below w.heap.size w w' := by
  go_enter Tryd.func25, Tryd.ntmps25
  go_wp2_with (go_at_call 34; refine (sh_stringslite_Clone s _ (by omega)).mono ?_; rintro e w1 ⟨rfl, hb1⟩)
  go_ret
  exact ⟨rfl, hb1⟩

section
variable {P : Program} {w : World} {ops : Array Oper} {rest : List Oper} {o : Oper} {a : Act} {Q : Exit → Act → World → Prop} {ty : TypeId} {cs : List Value}
theorem run_allocC (hz : ∀ w, (zeroValue ty).run P w = .ok (.agg cs.toArray) w) (w : World) :
    (Instr.alloc ty true (.tuple #[])).run P w = .ok (.pointer (some ⟨w.heap.size, 0, none⟩)) (w.alloc (.cells cs.toArray ty)) := by
  simp [Instr.alloc, hz, newVar, newRow, Value.cells]
theorem wpList_allocC (hz : ∀ w, (zeroValue ty).run P w = .ok (.agg cs.toArray) w) (hgd : o.guard = none) (ho : o.op = .alloc ty)
    (hk : wpList P ops Q rest (a.put o.dst (.pointer (some ⟨w.heap.size, 0, none⟩))) (w.alloc (.cells cs.toArray ty))) : wpList P ops Q (o :: rest) a w := by
  refine wpList_plain hgd fun K hK => ?_
  unfold Oper.wp execOp
  simp only [ho, Sem.run_bind, run_allocC hz w, Result.andThen_ok, Sem.run_pure]
  exact hK _ _ hk
theorem results_C2 {fn : Func} {p q : Tmp} {n g : Nat} {t : TypeId} {v : Value} (hr : fn.results = #[.cell p ty, .tmp q]) (tmps : Array Value) (hT : AggT P ty n) (h : CB w g t cs) (hl : cs.length = n) (hp : tmps.getD p undef = .pointer (some ⟨g, 0, none⟩)) (hq : tmps.getD q undef = v) :
    (results fn tmps).run P w = .ok (.tuple #[.agg cs.toArray, v]) w := by
  have hp' : tmps[p]?.getD undef = .pointer (some ⟨g, 0, none⟩) := by simpa using hp
  have hq' : tmps[q]?.getD undef = v := by simpa using hq
  have hld := run_loadC (P := P) (p := cs) (off := 0) hT h (by rw [List.drop_zero]; exact List.take_of_length_le (by omega)) (by omega)
  simp [results, hr, hp', hq', asAddr, hld]
end
theorem aggN : AggT Tryd.prog 66 2 := ⟨fun _ => by kernel_rfl, by kernel_rfl⟩
def zeroN : List Value := [.slice none 0 0, .string ⟨#[]⟩]
theorem zeroN_run (w : World) : (zeroValue 66).run Tryd.prog w = .ok (.agg zeroN.toArray) w := by kernel_rfl

/-- What Parse answers. -/
def Parsed (w : World) (l : List UInt8) (e : Ending) (w' : World) : Prop :=
  if parses l = true then ∃ (g n : Nat) (ls : List ByteArray) (r : ByteArray), e = .returned (.tuple #[.agg #[.slice (some ⟨g, 0, none⟩) n n, .string r], .int .i64 0]) ∧ ls.length = n ∧ n ≤ 3 ∧ dl ls = partsOf l ∧ r.data.toList = realmOf l ∧ w'.heap[g]? = some (.cells (ls.map Value.string).toArray 9 (0, 0)) ∧ w.heap.size ≤ g ∧ Below w.heap.size w w'
  else e = .returned (.tuple #[.agg #[.slice none 0 0, .string ⟨#[]⟩], .int .i64 30]) ∧ Below w.heap.size w w'


theorem nm_one (A : Option Addr) (n c : Nat) (r : ByteArray) : ∀ u ∈ [Value.slice A n c, .string r], u.oneCell' = true := by
  intro u hu
  simp only [List.mem_cons, List.not_mem_nil, or_false] at hu
  rcases hu with rfl | rfl <;> rfl
theorem over_nm (cs : List Value) (u v : Value) (h : cs.length = 2) : over cs 0 [u, v] = [u, v] := by
  rw [over, List.take_zero, List.nil_append, List.drop_eq_nil_of_le (by simp; omega)]
  rfl
set_option maxHeartbeats 400000 in
theorem parse_any (s : ByteArray) (l : List UInt8) (hl : s.data.toList = l) (w : World) (hM : ML w) (hs : l.length ≤ 1000000) :
    Calls Tryd.prog 26 #[.string s] w fun e w' => Parsed w l e w' := by
  have hsz : s.size = l.length := by rw [← hl]; rfl
  have HSZ := Lib.hid hsz
  have HL := Lib.hid hl
  have HMM := Lib.hid hM
  have HS := Lib.hid hs
  by_cases hlong : 67 < l.length
  · have hp : parses l = false := by
      cases h : parses l with
      | false => rfl
      | true => have := parses_len h; omega
    have hli : (67 : Int) < (s.size : Int) := by omega
    have HP := Lib.hid hp
    clear hl hM hs hp hsz
    go_enter Tryd.func26, Tryd.ntmps26
    go_wp2_with (first
      | refine wpList_allocC zeroN_run rfl rfl ?_
      | (refine wpList_storeC (off := 0) (p := zeroN) aggN.hi rfl (.tmp 2) (.tmp 12) rfl (.agg zeroN.toArray) rfl (nm_one _ _ _ _) (CB.new w 66 zeroN) rfl (Nat.le_refl _) (by first | rfl | go_simp) rfl ?_; intro w8 h8 g8; rw [show over zeroN 0 zeroN = zeroN from rfl] at h8))
    refine bodyPost_ret (results_C2 rfl _ aggN h8 rfl rfl rfl) rfl ?_
    rw [Parsed, if_neg (by rw [HP.out]; simp)]
    exact ⟨rfl, below_of_none (none_new (grown_alloc w _ none) g8 (Nat.le_refl _))⟩
  · have hli : ¬ (67 : Int) < (s.size : Int) := by omega
    have HLL := Lib.hid (show l.length ≤ 67 by omega)
    have HC1 := Lib.hid (cut1_len 64 l)
    have HR0 := Lib.hid (CB.new w 66 zeroN)
    have HB0 := Lib.hid ((Below.refl w.heap.size w).alloc (Nat.le_refl _) (.cells zeroN.toArray 66))
    have HSC := Lib.hid (show s.size ≤ 1000000 by omega)
    cases hp : parses l with
    | false =>
      have HP := Lib.hid hp
      clear hl hM hs hsz hp
      go_enter Tryd.func26, Tryd.ntmps26
      go_wp2_with (first
        | refine wpList_allocC zeroN_run rfl rfl ?_
        | (go_at_call 25; refine (sclone_any s _ HSC.out).mono ?_; rintro e w3 ⟨rfl, hb3⟩; have HR3 := Lib.hid (HR0.out.below hb3 (by rw [World.size_alloc]; omega)); have HB3 := Lib.hid (HB0.out.trans (hb3.mono (by rw [World.size_alloc]; omega))); clear hb3)
        | (go_at_call 35; refine (cut_n s l HL.out _ (HMM.out.below HB3.out) HS.out).mono ?_; rintro e w4 ⟨a, b, f, q, rfl, ha, hb, hw4⟩; have HR4 := Lib.hid (show CB w4 w.heap.size 66 zeroN by rw [hw4]; exact HR3.out); have HB4 := Lib.hid (show Below w.heap.size w w4 by rw [hw4]; exact nbelow_drewN HB3.out q); have HA := Lib.hid ha; have HRB := Lib.hid (show b.data.toList = realmOf l from hb); have HBS := Lib.hid (show b.size ≤ 1000000 by have : b.size = b.data.toList.length := rfl; rw [this, hb]; have := HC1.out.2; have := HS.out; omega); clear ha hb hw4)
        | (go_at_call 36; refine (split_n a _ HA.out _ (HMM.out.below HB4.out) (by have := HC1.out.1; have := HLL.out; omega)).mono ?_; rintro e w5 ⟨ls, n, rfl, hn, hnb, hd, hw5⟩; obtain ⟨g, hg⟩ : ∃ g, g = w4.heap.size := ⟨_, rfl⟩; rw [← hg]; have HG5 := Lib.hid (show w5.heap[g]? = some (.cells (ls.map Value.string).toArray 9 (0, 0)) by rw [hw5, hg]; exact heap_alloc_new w4 _); have RS5 := Lib.hid (show NS w5 w5.heap.size (some ⟨g, 0, none⟩) ls n by rw [hw5, hg]; exact NS.newS w4 _ ls n hn (by omega)); have HR5 := Lib.hid (show CB w5 w.heap.size 66 zeroN by rw [hw5]; exact HR4.out.alloc _); have HB5 := Lib.hid (show Below w.heap.size w w5 by rw [hw5]; exact HB4.out.alloc HB4.out.size _); have HGE := Lib.hid (show w.heap.size < g by rw [hg]; exact HR4.out.lt); have HN := Lib.hid hn; have HD := Lib.hid (show dl ls = partsOf l from hd); have HLS := Lib.hid (show ∀ s ∈ ls, s.size ≤ 1000000 from fun s hs => by
            have hm : s.data.toList ∈ dl ls := List.mem_map.2 ⟨s, hs, rfl⟩
            rw [hd] at hm
            have h1 := pieces1_mem 47 _ _ hm
            have h2 : s.size = s.data.toList.length := rfl
            have := HC1.out.1
            have := HS.out
            omega); clear hn hnb hd hw5 hg)
        | (refine wpList_storeC (off := 0) (p := [.slice (some ⟨g, 0, none⟩) n n, .string b]) aggN.hi rfl (.tmp 7) (.tmp 23) rfl (.agg #[.slice (some ⟨g, 0, none⟩) n n, .string b]) rfl (nm_one _ _ _ _) (CB.new w5 66 zeroN) rfl (Nat.le_refl _) (by first | rfl | go_simp) rfl ?_; intro w7 h7 g7; rw [over_nm _ _ _ rfl] at h7; have H7 := Lib.hid h7; have HR7 := Lib.hid ((HR5.out.alloc _).grown g7 (Nat.ne_of_lt HR5.out.lt)); have hn7 := none_new (grown_alloc w5 (.cells zeroN.toArray 66) none) g7 (Nat.le_refl _); have HB7 := Lib.hid (HB5.out.trans ((below_of_none hn7).mono HB5.out.size)); have RS7 := Lib.hid (RS5.out.over (below_of_none hn7)); have HG7 := Lib.hid ((hn7.block g (Array.getElem?_eq_some_iff.1 HG5.out).1 (fun e => by cases e)).trans HG5.out); have HS7 := Lib.hid (Nat.le_trans (Nat.le_succ _) (Nat.le_trans (Nat.le_of_eq (World.size_alloc w5 (.cells zeroN.toArray 66)).symm) g7.size)); clear h7 g7 hn7)
        | refine wpList_loadC (off := 0) (p := [.slice (some ⟨g, 0, none⟩) n n, .string b]) aggN rfl (.tmp 7) rfl H7.out rfl (Nat.le_refl _) rfl ?_
        | (go_at_call 37; refine (ncheck_any (some ⟨g, 0, none⟩) ls n b _ RS7.out HLS.out HBS.out n HN.out).mono ?_; rintro e w6 ⟨rfl, hb6⟩; rw [HD.out, HRB.out, show errOf (nameOk (partsOf l) (realmOf l)) = 30 by rw [show nameOk (partsOf l) (realmOf l) = false from HP.out]; rfl]; have HR6 := Lib.hid (HR7.out.below hb6 HR7.out.lt); have HB6 := Lib.hid (HB7.out.trans (hb6.mono HB7.out.size)); clear hb6)
        | (refine wpList_storeC (off := 0) (p := zeroN) aggN.hi rfl (.tmp 2) (.tmp 28) rfl (.agg zeroN.toArray) rfl (nm_one _ _ _ _) HR6.out rfl (Nat.le_refl _) (by first | rfl | go_simp) rfl ?_; intro w8 h8 g8; rw [show over zeroN 0 zeroN = zeroN from rfl] at h8))
      refine bodyPost_ret (results_C2 rfl _ aggN h8 rfl rfl rfl) rfl ?_
      rw [Parsed, if_neg (by rw [HP.out]; simp)]
      exact ⟨rfl, below_of_none (none_new (none_of_below HB6.out (Nat.le_refl _)) g8 (Nat.le_refl _))⟩
    | true =>
      have HP := Lib.hid hp
      clear hl hM hs hsz hp
      go_enter Tryd.func26, Tryd.ntmps26
      go_wp2_with (first
        | refine wpList_allocC zeroN_run rfl rfl ?_
        | (go_at_call 25; refine (sclone_any s _ HSC.out).mono ?_; rintro e w3 ⟨rfl, hb3⟩; have HR3 := Lib.hid (HR0.out.below hb3 (by rw [World.size_alloc]; omega)); have HB3 := Lib.hid (HB0.out.trans (hb3.mono (by rw [World.size_alloc]; omega))); clear hb3)
        | (go_at_call 35; refine (cut_n s l HL.out _ (HMM.out.below HB3.out) HS.out).mono ?_; rintro e w4 ⟨a, b, f, q, rfl, ha, hb, hw4⟩; have HR4 := Lib.hid (show CB w4 w.heap.size 66 zeroN by rw [hw4]; exact HR3.out); have HB4 := Lib.hid (show Below w.heap.size w w4 by rw [hw4]; exact nbelow_drewN HB3.out q); have HA := Lib.hid ha; have HRB := Lib.hid (show b.data.toList = realmOf l from hb); have HBS := Lib.hid (show b.size ≤ 1000000 by have : b.size = b.data.toList.length := rfl; rw [this, hb]; have := HC1.out.2; have := HS.out; omega); clear ha hb hw4)
        | (go_at_call 36; refine (split_n a _ HA.out _ (HMM.out.below HB4.out) (by have := HC1.out.1; have := HLL.out; omega)).mono ?_; rintro e w5 ⟨ls, n, rfl, hn, hnb, hd, hw5⟩; obtain ⟨g, hg⟩ : ∃ g, g = w4.heap.size := ⟨_, rfl⟩; rw [← hg]; have HG5 := Lib.hid (show w5.heap[g]? = some (.cells (ls.map Value.string).toArray 9 (0, 0)) by rw [hw5, hg]; exact heap_alloc_new w4 _); have RS5 := Lib.hid (show NS w5 w5.heap.size (some ⟨g, 0, none⟩) ls n by rw [hw5, hg]; exact NS.newS w4 _ ls n hn (by omega)); have HR5 := Lib.hid (show CB w5 w.heap.size 66 zeroN by rw [hw5]; exact HR4.out.alloc _); have HB5 := Lib.hid (show Below w.heap.size w w5 by rw [hw5]; exact HB4.out.alloc HB4.out.size _); have HGE := Lib.hid (show w.heap.size < g by rw [hg]; exact HR4.out.lt); have HN := Lib.hid hn; have HD := Lib.hid (show dl ls = partsOf l from hd); have HLS := Lib.hid (show ∀ s ∈ ls, s.size ≤ 1000000 from fun s hs => by
            have hm : s.data.toList ∈ dl ls := List.mem_map.2 ⟨s, hs, rfl⟩
            rw [hd] at hm
            have h1 := pieces1_mem 47 _ _ hm
            have h2 : s.size = s.data.toList.length := rfl
            have := HC1.out.1
            have := HS.out
            omega); clear hn hnb hd hw5 hg)
        | (refine wpList_storeC (off := 0) (p := [.slice (some ⟨g, 0, none⟩) n n, .string b]) aggN.hi rfl (.tmp 7) (.tmp 23) rfl (.agg #[.slice (some ⟨g, 0, none⟩) n n, .string b]) rfl (nm_one _ _ _ _) (CB.new w5 66 zeroN) rfl (Nat.le_refl _) (by first | rfl | go_simp) rfl ?_; intro w7 h7 g7; rw [over_nm _ _ _ rfl] at h7; have H7 := Lib.hid h7; have HR7 := Lib.hid ((HR5.out.alloc _).grown g7 (Nat.ne_of_lt HR5.out.lt)); have hn7 := none_new (grown_alloc w5 (.cells zeroN.toArray 66) none) g7 (Nat.le_refl _); have HB7 := Lib.hid (HB5.out.trans ((below_of_none hn7).mono HB5.out.size)); have RS7 := Lib.hid (RS5.out.over (below_of_none hn7)); have HG7 := Lib.hid ((hn7.block g (Array.getElem?_eq_some_iff.1 HG5.out).1 (fun e => by cases e)).trans HG5.out); have HS7 := Lib.hid (Nat.le_trans (Nat.le_succ _) (Nat.le_trans (Nat.le_of_eq (World.size_alloc w5 (.cells zeroN.toArray 66)).symm) g7.size)); clear h7 g7 hn7)
        | refine wpList_loadC (off := 0) (p := [.slice (some ⟨g, 0, none⟩) n n, .string b]) aggN rfl (.tmp 7) rfl H7.out rfl (Nat.le_refl _) rfl ?_
        | (go_at_call 37; refine (ncheck_any (some ⟨g, 0, none⟩) ls n b _ RS7.out HLS.out HBS.out n HN.out).mono ?_; rintro e w6 ⟨rfl, hb6⟩; rw [HD.out, HRB.out, show errOf (nameOk (partsOf l) (realmOf l)) = 0 by rw [show nameOk (partsOf l) (realmOf l) = true from HP.out]; rfl]; have HR6 := Lib.hid (HR7.out.below hb6 HR7.out.lt); have HB6 := Lib.hid (HB7.out.trans (hb6.mono HB7.out.size)); have HG6 := Lib.hid ((hb6.block _ (Array.getElem?_eq_some_iff.1 HG7.out).1).trans HG7.out); have HT6 := Lib.hid (H7.out.below hb6 H7.out.lt); clear hb6)
        | (have hx := HT6; clear hx; refine wpList_loadC (off := 0) (p := [.slice (some ⟨g, 0, none⟩) n n, .string b]) aggN rfl (.tmp 7) rfl HT6.out rfl (Nat.le_refl _) rfl ?_)
        | (refine wpList_storeC (off := 0) (p := [.slice (some ⟨g, 0, none⟩) n n, .string b]) aggN.hi rfl (.tmp 2) (.tmp 30) rfl (.agg #[.slice (some ⟨g, 0, none⟩) n n, .string b]) rfl (nm_one _ _ _ _) HR6.out rfl (Nat.le_refl _) (by first | rfl | go_simp) rfl ?_; intro w8 h8 g8; rw [over_nm _ _ _ rfl] at h8))
      refine bodyPost_ret (results_C2 rfl _ aggN h8 rfl rfl rfl) rfl ?_
      rw [Parsed, if_pos HP.out]
      have hn3 : n ≤ 3 := by have := (nameOk_iff.1 HP.out).1; rw [← HD.out, dl_length, HN.out] at this; omega
      exact ⟨g, n, ls, b, rfl, HN.out, hn3, HD.out, HRB.out, (g8.block g (Array.getElem?_eq_some_iff.1 HG6.out).1 (by intro e; injection e with e; have := HGE.out; omega)).trans HG6.out, by have := HGE.out; omega, below_of_none (none_new (none_of_below HB6.out (Nat.le_refl _)) g8 (Nat.le_refl _))⟩
end Go.Proofs.YtfpcabfpnekejaaDoor
