/- A client's tickets: their cells, as values of a map; isOver; maps.DeleteFunc at them. -/
import Derived.Test.YtfpcabfpnekejaaDoorTkw
import Derived.Test.YtfpcabfpnekejaaDoorBsc
namespace Go.Proofs.YtfpcabfpnekejaaDoor
open Go.RowKit Go.Maps Go.WideMaps

/-- A ticket and what came with it: client, ticket; server, key, nonce, start, end, flags. -/
structure Cd where
  cl : List UInt8
  tk : List UInt8
  sv : List UInt8
  ky : List UInt8
  no : Nat
  st : Int
  en : Int
  fl : Int
def grC (x : Cd) : List Value := gcells ⟨x.sv.toArray⟩ x.ky (x.no : Int) x.st x.en x.fl
def cdC (x : Cd) (A : Option Addr) (c : Nat) : List Value := [.string ⟨x.cl.toArray⟩, .slice A x.tk.length c] ++ grC x
/-- .. with where its ticket lies. -/
abbrev Ce := Cd × Option Addr × Nat
def ceC (p : Ce) : List Value := cdC p.1 p.2.1 p.2.2
def ceV (p : Ce) : Value := .agg (ceC p).toArray
def I64c (n : Int) : Prop := -9223372036854775808 ≤ n ∧ n ≤ 9223372036854775807
/-- What is known of one that came in. -/
structure cdW (x : Cd) : Prop where
  lk : x.ky.length = 16
  no : x.no < 18446744073709551616
  st : I64c x.st
  en : I64c x.en
  fl : I64c x.fl
structure cdOk (x : Cd) : Prop where
  lc : x.cl.length ≤ 1000
  lt : x.tk.length ≤ 100000
  ls : x.sv.length ≤ 1000
  w : cdW x
theorem cdC_length {x : Cd} (h : x.ky.length = 16) (A : Option Addr) (c : Nat) : (cdC x A c).length = 23 := by
  rw [cdC, List.length_append, grC, gcells_length _ _ _ _ _ _ h]; rfl
theorem cdC_one (x : Cd) (A : Option Addr) (c : Nat) : ∀ u ∈ cdC x A c, u.oneCell' = true := by
  intro u hu
  rcases List.mem_append.1 hu with hu | hu
  · simp only [List.mem_cons, List.not_mem_nil, or_false] at hu
    rcases hu with rfl | rfl <;> rfl
  · unfold grC gcells at hu
    rcases List.mem_append.1 hu with hu | hu
    · rcases List.mem_append.1 hu with hu | hu
      · rw [List.mem_singleton.1 hu]; rfl
      · exact bcells_one _ u hu
    · simp only [List.mem_cons, List.not_mem_nil, or_false] at hu
      rcases hu with rfl | rfl | rfl | rfl <;> rfl
theorem cdC_cl (x : Cd) (A : Option Addr) (c : Nat) : (cdC x A c)[0]? = some (.string ⟨x.cl.toArray⟩) := rfl
theorem cdC_tk (x : Cd) (A : Option Addr) (c : Nat) : (cdC x A c)[1]? = some (.slice A x.tk.length c) := rfl
theorem cdC_sv (x : Cd) (A : Option Addr) (c : Nat) : (cdC x A c)[2]? = some (.string ⟨x.sv.toArray⟩) := rfl
theorem cdC_en {x : Cd} (h : x.ky.length = 16) (A : Option Addr) (c : Nat) : (cdC x A c)[21]? = some (.int .i64 x.en) := by
  unfold cdC grC gcells
  rw [List.getElem?_append_right (by simp)]
  simp [bcells_length, h]
theorem cdC_gr {x : Cd} (h : x.ky.length = 16) (A : Option Addr) (c : Nat) : ((cdC x A c).drop 2).take 21 = grC x := by
  show (grC x).take 21 = grC x
  exact List.take_of_length_le (by rw [grC, gcells_length _ _ _ _ _ _ h]; exact Nat.le_refl _)
def zeroCd : Cd := ⟨[], [], [], zeros 16, 0, 0, 0, 0⟩
def zeroCe : Ce := (zeroCd, none, 0)
theorem zeroCe_length : (ceC zeroCe).length = 23 := cdC_length (zeros_length 16) _ _
theorem zeroC_run (w : World) : (zeroValue 38).run Tryd.prog w = .ok (.agg (ceC zeroCe).toArray) w := by kernel_rfl
theorem aggC : AggT Tryd.prog 38 23 := ⟨fun _ => by kernel_rfl, by kernel_rfl⟩
abbrev Cm := List (List UInt8 × Ce)
/-- The tickets' bytes lie elsewhere than in the map. -/
def TBk (w : World) (b : Nat) (p : Ce) : Prop := RB w w.heap.size p.2.1 p.1.tk p.2.2 ∧ ∀ a, p.2.1 = some a → p.1.tk = [] ∨ a.block ≠ b
theorem TBk.none {w w' : World} {b : Nat} {p : Ce} (h : TBk w b p) (hg : w.grownBy w' Option.none) : TBk w' b p := ⟨h.1.row_ hg, h.2⟩
theorem TBk.map {w w' : World} {b : Nat} {p : Ce} (h : TBk w b p) (hg : w.grownBy w' (some b)) : TBk w' b p := by
  refine ⟨⟨h.1.1, h.1.2.1, h.1.2.2.imp id fun ⟨a, hA, hc⟩ => ⟨a, hA, fun k u hu => ?_⟩⟩, h.2⟩
  obtain ⟨hb, hcell⟩ := hc k u hu
  refine ⟨Nat.lt_of_lt_of_le hb hg.size, ?_⟩
  have hne : some b ≠ some a.block := by
    rcases h.2 a hA with h1 | h1
    · rw [h1] at hu; simp at hu
    · exact fun e => h1 (by injection e with e; exact e.symm)
  have hblk := hg.block a.block hb (fun e => hne e.symm)
  rw [← hcell]
  unfold World.cell?
  rw [add_block, hblk]
/-- Each stands under its server's name, and is fine. -/
def CmOk (w : World) (b : Nat) (M : Cm) : Prop := ∀ p ∈ M, p.1 = p.2.1.sv ∧ cdOk p.2.1 ∧ TBk w b p.2
theorem CmOk.none {w w' : World} {b : Nat} {M : Cm} (h : CmOk w b M) (hg : w.grownBy w' Option.none) : CmOk w' b M := fun p hp => ⟨(h p hp).1, (h p hp).2.1, (h p hp).2.2.none hg⟩
theorem CmOk.map {w w' : World} {b : Nat} {M M' : Cm} (h : CmOk w b M) (hg : w.grownBy w' (some b)) (hs : ∀ p ∈ M', p ∈ M) : CmOk w' b M' := fun p hp => ⟨(h p (hs p hp)).1, (h p (hs p hp)).2.1, (h p (hs p hp)).2.2.map hg⟩

theorem isOver_any (p : Ce) (hk : p.1.ky.length = 16) (now : Int) (w : World) : Calls Tryd.prog 17 #[.agg (ceC p).toArray, .int .i64 now] w fun e w' => e = .returned (.bool (decide (p.1.en < now))) ∧ w.grownBy w' none := by
  have q0 := (CB.new w 38 (ceC p)).at_ (cdC_en hk p.2.1 p.2.2)
  have HG := Lib.hid (grown_alloc w (.cells (ceC p).toArray 38) none)
  clear hk
  go_enter Tryd.func17, Tryd.ntmps17
  go_wp2
  go_ret
  exact ⟨rfl, HG.out⟩
theorem over_any (s : Value) (p : Ce) (hk : p.1.ky.length = 16) (now : Int) (w : World) (nb : Nat) (hb : w.cell? ⟨nb, 0, none⟩ = some (.int .i64 now)) :
    Calls Tryd.prog 19 #[s, .agg (ceC p).toArray, .pointer (some ⟨nb, 0, none⟩)] w fun e w' => e = .returned (.bool (decide (p.1.en < now))) ∧ w.grownBy w' none := by
  have q0 : (w.alloc (.cells (ceC p).toArray 38)).cell? ⟨nb, 0, none⟩ = some (.int .i64 now) := cell_alloc hb _
  have HB := Lib.hid (CB.new w 38 (ceC p))
  have HG := Lib.hid (grown_alloc w (.cells (ceC p).toArray 38) none)
  have HK := Lib.hid hk
  have HL := Lib.hid (cdC_length hk p.2.1 p.2.2)
  clear hk hb
  go_enter Tryd.func19, Tryd.ntmps19
  go_wp2_with (first
    | (refine wpList_loadC (off := 0) (p := ceC p) aggC rfl (.tmp 4) rfl HB.out (take_all HL.out) (by rw [show (ceC p).length = 23 from HL.out]; omega) (by first | rfl | go_simp) ?_)
    | (go_at_call 17; refine (isOver_any p HK.out now _).mono ?_; rintro e w1 ⟨rfl, g1⟩; have G1 := Lib.hid (grown_trans' HG.out g1); clear g1))
  go_ret
  exact ⟨rfl, G1.out⟩

/-- Is what a key reads as one of these that is over? -/
def pdC (P : Program) (k : TypeId) (M : Cm) (now : Int) (kl : Lit) (_ : DataW Value) : Bool := M.any fun p => (litOf P k strV p.1).sameKey kl && decide (p.2.1.en < now)
theorem uniqM {β : Type} {M : List (List UInt8 × β)} (hd : (keysM M).Nodup) {p q : List UInt8 × β} (hp : p ∈ M) (hq : q ∈ M) (h : p.1 = q.1) : p = q := by
  have hpw : M.Pairwise (fun p q => p.1 ≠ q.1) := List.pairwise_map.1 hd
  clear hd
  induction M with
  | nil => cases hp
  | cons r M ih =>
    obtain ⟨h3, h4⟩ := List.pairwise_cons.1 hpw
    rcases List.mem_cons.1 hp with e1 | h1
    · rcases List.mem_cons.1 hq with e2 | h2
      · rw [e1, e2]
      · exact absurd (by rw [← e1]; exact h) (h3 _ h2)
    · rcases List.mem_cons.1 hq with e2 | h2
      · exact absurd (by rw [← e2]; exact h.symm) (h3 _ h1)
      · exact ih h1 h2 h4
set_option maxRecDepth 10000 in
theorem pdC_at {M : Cm} (hF : FineM Tryd.prog 9 strV M) {now : Int} {p : List UInt8 × Ce} (hp : p ∈ M) (d : DataW Value) : pdC Tryd.prog 9 M now (litOf Tryd.prog 9 strV p.1) d = decide (p.2.1.en < now) := by
  unfold pdC
  rw [Bool.eq_iff_iff, List.any_eq_true]
  constructor
  · rintro ⟨x, hx, h⟩
    rw [Bool.and_eq_true] at h
    have := lit_inj keyedS strV_inj (hF.2 _ (mem_keysM.2 ⟨x.2, hx⟩)) (hF.2 _ (mem_keysM.2 ⟨p.2, hp⟩)) (WideAt.sameKey_eq h.1)
    rw [← uniqM hF.1 hx hp this]
    exact h.2
  · intro h
    exact ⟨p, hp, by rw [h, WideAt.sameKey_self (keyedS.key (hF.2 _ (mem_keysM.2 ⟨p.2, hp⟩)))]; rfl⟩
def liveM (M : Cm) (now : Int) : Cm := M.filter fun p => !decide (p.2.1.en < now)
set_option maxRecDepth 10000 in
/-- What comes out of the map is one of its entries. -/
theorem cameC_of {M : Cm} {left : Lit → Bool} {kl : Lit} {y : DataW Value} {es : List (Lit × DataW Value)} (hes : (datM Tryd.prog 9 strV ceV M) = .map es) {pd : Lit → DataW Value → Bool} (hat : ∀ zd, (Fk pd es left).atKey kl zd = y) :
    ∃ p ∈ M, litOf Tryd.prog 9 strV p.1 = kl ∧ y = .held (ceV p.2) := by
  have hh : Maps.has (Fk pd es left) kl = true := has_true_of_atKey hat
  unfold datM at hes
  have e : (M.map (ent Tryd.prog 9 strV ceV)).foldr DataW.insert [] = es := by injection hes
  have h2 := hat .nil
  unfold Fk DataW.atKey at h2
  simp only at h2
  cases hq : (List.filter (fun p => !pd p.1 p.2 || left p.1) es).find? (fun p => p.1.sameKey kl) with
  | none =>
    obtain ⟨p, hp, hs⟩ := List.any_eq_true.1 hh
    have := List.find?_eq_none.1 hq p hp
    exact absurd hs this
  | some q =>
    rw [hq] at h2
    have hqm := (List.mem_filter.1 (List.mem_of_find?_eq_some hq)).1
    have hqk := List.find?_some hq
    rw [← e] at hqm
    obtain ⟨z, hz, rfl⟩ := List.mem_map.1 (mem_sorted.1 hqm)
    exact ⟨z, hz, WideAt.sameKey_eq hqk, h2.symm⟩

set_option maxRecDepth 100000 in
set_option maxHeartbeats 2000000 in
theorem delC_any (b nb : Nat) (M : Cm) (now : Int) (w : World) (hM : MT Tryd.prog 9 strV ceV w b M) (hok : ∀ p ∈ M, p.2.1.ky.length = 16) (hnb : w.cell? ⟨nb, 0, none⟩ = some (.int .i64 now)) (hne : nb ≠ b) :
    Calls Tryd.prog 18 #[.map (some b), .func (.func 19) #[] #[.pointer (some ⟨nb, 0, none⟩)]] w
      fun e w' => e = .returned (.tuple #[]) ∧ MT Tryd.prog 9 strV ceV w' b (liveM M now) ∧ w.grownBy w' (some b) := by
  have hown := hM.2
  obtain ⟨es0, hes, hap, hkeys⟩ := hown.entries keyedS
  have HES := Lib.hid hes
  have HNB := Lib.hid hnb
  have HNE := Lib.hid hne
  have HOK := Lib.hid hok
  have HF := Lib.hid hM.1
  have HBL := Lib.hid (World.block_lt_of_cell? w _ hnb)
  rw [hes] at hown
  clear hM hnb hne hok hes
  go_enter Tryd.func18, Tryd.ntmps18
  go_wp2_with (first
    | (at_range; refine wpList_range_own _ rfl _ 50 rfl 9 38 keyedS Tryd.underlying50 RV b _ _ rfl hown ?_; intro w0 hrg0 hg0 hs0)
    | go_in)
  go_loopw [8] (fun _ wr => ∃ (left : Lit → Bool) (cnt : Nat), wr.ranges Tryd.prog 9 RV b w.heap.size M.length (Fk (pdC Tryd.prog 9 M now) es0 left) left cnt ∧ w.grownBy wr (some b))
    (fun _ wr => wr.rangeLeft b w.heap.size)
  case atStart => exact ⟨_, _, by rw [Fk_start hkeys]; exact hrg0, hg0.but _⟩
  case round =>
    obtain ⟨left, cnt, hrg, hgw⟩ := hrel
    go_wp2_with (first
      | (at_next; refine wpList_next_ranges _ rfl _ rfl 9 keyedS RV id id (fun key _ _ => ⟨key, rfl⟩) (fun v _ _ => ⟨v, rfl⟩) b w.heap.size _ _ _ _ rfl hrg ?_ ?_)
      | go_in)
    · intro _ hl0
      go_wp2
      go_end0
      refine ⟨rfl, MT.mk (HF.out.sub (show (liveM M now).Sublist M from List.filter_sublist)) hrg.owns ?_, hgw⟩
      rw [Fk_end hl0, ← HES.out]
      exact strike_datM keyedS strV_inj HF.out _ (fun p => decide (p.2.1.en < now)) (fun p hp => pdC_at HF.out hp _)
    · intro x c kl yd yp w1 cnt1 hkey hlx hv hat hrg1 hlt hg1 hs1 hen
      obtain ⟨p, hp, hka, hyd⟩ := cameC_of HES.out hat
      have hok1 := HF.out.2 _ (mem_keysM.2 ⟨p.2, hp⟩)
      obtain rfl : x = strV p.1 := keyedS.inj hkey (by rw [← hka]; exact hok1)
      obtain rfl : c = ceV p.2 := by
        have h1 : yd = DataW.held c := by unfold RV at hv; simpa using (congrArg (fun o => o.map Prod.fst) hv).symm
        have h2 : DataW.held c = DataW.held (ceV p.2) := h1.symm.trans hyd
        injection h2
      have hpd : pdC Tryd.prog 9 M now kl yd = decide (p.2.1.en < now) := by rw [← hka]; exact pdC_at HF.out hp _
      have hgw1 := hgw.andThen hg1 (fun j hj => by cases hj; exact Or.inl (Nat.le_refl _))
      have hcn : w1.cell? ⟨nb, 0, none⟩ = some (.int .i64 now) := (World.cell?_of_block (hgw1.block nb HBL.out (fun e => HNE.out (by injection e)))).trans HNB.out
      have HOA := Lib.hid (HOK.out p hp)
      have HLA := Lib.hid (show (ceC p.2).length = 23 from cdC_length (HOK.out p hp) _ _)
      have HRG := Lib.hid hrg1
      have HKEY := Lib.hid (show keyOf Tryd.prog 9 (strV p.1) = some kl from hkey)
      have HAT := Lib.hid hat
      have HLX := Lib.hid hlx
      have HLT := Lib.hid hlt
      have HEQ := Lib.hid hrg.left_eq
      have HGW := Lib.hid hgw1
      have HPD := Lib.hid hpd
      have HCN := Lib.hid hcn
      have HNL := Lib.hid (World.block_lt_of_cell? w1 _ hcn)
      have hrl := hrg1.lt
      have hbl := hrg1.owns.lt
      have hen' : (Instr.entry (.pointer (some ⟨w.heap.size, 0, none⟩))).run Tryd.prog w1 = .ok (.tuple #[strV p.1, .agg (ceC p.2).toArray]) w1 := hen
      have HB1 := Lib.hid (CB.new w1 38 (ceC zeroCe))
      have HG1 := Lib.hid (grown_alloc w1 (.cells (ceC zeroCe).toArray 38) none)
      have TK0 := Lib.hid True.intro
      clear hgw hg1 hrg1 hkey hat hlx hlt hgw1 hcn hen hs1 hka hyd hv hp hpd hrg hok1
      show wpList _ _ _ _ _ _
      cases hf : decide (p.2.1.en < now) with
      | false =>
        have HF1 := Lib.hid hf
        clear hf
        go_wp2_with (first
          | (have hx := TK0; refine wpList_allocC zeroC_run rfl rfl ?_; clear hx TK0; have TK1 := Lib.hid True.intro)
          | (have hx := TK1; refine wpList_storeC (off := 0) (p := ceC p.2) aggC.hi rfl (.tmp 5) (.tmp 12) rfl (.agg (ceC p.2).toArray) rfl (cdC_one _ _ _) HB1.out HLA.out (by rw [zeroCe_length]; omega) (by first | rfl | go_simp) (by first | rfl | go_simp) ?_; intro w2 h2 g2; rw [over_all _ _ (Nat.le_of_eq (by rw [zeroCe_length, HLA.out]))] at h2; have B2 := Lib.hid h2; have G2 := Lib.hid (none_new HG1.out g2 (Nat.le_refl _)); clear h2 g2 hx TK1; have TK2 := Lib.hid True.intro)
          | (have hx := TK2; refine wpList_loadC (off := 0) (p := ceC p.2) aggC rfl (.tmp 5) rfl B2.out (take_all HLA.out) (by rw [HLA.out]; omega) (by first | rfl | go_simp) ?_; clear hx TK2)
          | (go_at_call 19; refine (over_any _ p.2 HOA.out now _ nb ((World.cell?_of_block (G2.out.block nb HNL.out (by simp))).trans HCN.out)).mono ?_; rintro e w4 ⟨rfl, g4⟩; rw [HF1.out]; have G4 := Lib.hid (grown_trans' G2.out g4); clear g4))
        go_roundw
        case rel => exact ⟨_, cnt1, by rw [← Fk_stays hap (keyedS.key HKEY.out) HLX.out (HPD.out.trans HF1.out) HAT.out]; exact HRG.out.kept G4.out (by simp) (by simp), HGW.out.andThen G4.out (fun j hj => by cases hj)⟩
        case measure => rw [(HRG.out.kept G4.out (by simp) (by simp)).left_eq, HEQ.out]; exact HLT.out
      | true =>
        have HF1 := Lib.hid hf
        clear hf
        go_wp2_with (first
          | (have hx := TK0; refine wpList_allocC zeroC_run rfl rfl ?_; clear hx TK0; have TK1 := Lib.hid True.intro)
          | (have hx := TK1; refine wpList_storeC (off := 0) (p := ceC p.2) aggC.hi rfl (.tmp 5) (.tmp 12) rfl (.agg (ceC p.2).toArray) rfl (cdC_one _ _ _) HB1.out HLA.out (by rw [zeroCe_length]; omega) (by first | rfl | go_simp) (by first | rfl | go_simp) ?_; intro w2 h2 g2; rw [over_all _ _ (Nat.le_of_eq (by rw [zeroCe_length, HLA.out]))] at h2; have B2 := Lib.hid h2; have G2 := Lib.hid (none_new HG1.out g2 (Nat.le_refl _)); clear h2 g2 hx TK1; have TK2 := Lib.hid True.intro)
          | (have hx := TK2; refine wpList_loadC (off := 0) (p := ceC p.2) aggC rfl (.tmp 5) rfl B2.out (take_all HLA.out) (by rw [HLA.out]; omega) (by first | rfl | go_simp) ?_; clear hx TK2)
          | (go_at_call 19; refine (over_any _ p.2 HOA.out now _ nb ((World.cell?_of_block (G2.out.block nb HNL.out (by simp))).trans HCN.out)).mono ?_; rintro e w4 ⟨rfl, g4⟩; rw [HF1.out]; have G4 := Lib.hid (grown_trans' G2.out g4); clear g4)
          | (at_delete; refine wpList_delete_ranges _ rfl _ _ 50 9 rfl 38 keyedS Tryd.underlying50 RV b w.heap.size _ _ _ _ rfl (HRG.out.kept G4.out (by simp) (by simp)) _ _ rfl HKEY.out ?_; intro w5 cnt5 hrg5 hle hturn; go_frame))
        rw [strike_twice] at hrg5
        go_roundw
        case rel => exact ⟨_, cnt5, by rw [← Fk_struck hap (keyedS.key HKEY.out) HLX.out (HPD.out.trans HF1.out) HAT.out]; exact hrg5, (HGW.out.andThen G4.out (fun j hj => by cases hj)).andThen hturn.grown (fun j hj => by cases hj; exact Or.inr rfl)⟩
        case measure => rw [hrg5.left_eq, HEQ.out]; have := HLT.out; omega
end Go.Proofs.YtfpcabfpnekejaaDoor
