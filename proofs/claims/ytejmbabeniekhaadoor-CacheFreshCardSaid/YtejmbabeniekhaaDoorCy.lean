/- A client's tickets: their cells, as values of a map; isOver; maps.DeleteFunc at them. -/
import Derived.Test.YtejmbabeniekhaaDoorTkw
import Derived.Test.YtejmbabeniekhaaDoorBx
namespace Go.Proofs.YtejmbabeniekhaaDoor
open Go.RowKit Go.Maps Go.WideMaps

/-- A ticket and what came with it: client, ticket; server, key, nonce, start, end, flags. -/
structure Cd where
  cl : List UInt8
  tk : List UInt8
  sv : List UInt8
  ky : List UInt8
  no : Nat
  st : Int
  en : Int
  fl : Int
def grC (x : Cd) : List Value := gcells ⟨x.sv.toArray⟩ x.ky (x.no : Int) x.st x.en x.fl
def cdC (x : Cd) (A : Option Addr) (c : Nat) : List Value := [.string ⟨x.cl.toArray⟩, .slice A x.tk.length c] ++ grC x
/-- .. with where its ticket lies. -/
abbrev Ce := Cd × Option Addr × Nat
def ceC (p : Ce) : List Value := cdC p.1 p.2.1 p.2.2
def ceV (p : Ce) : Value := .agg (ceC p).toArray
def I64c (n : Int) : Prop := -9223372036854775808 ≤ n ∧ n ≤ 9223372036854775807
/-- What is known of one that came in. -/
structure cdW (x : Cd) : Prop where
  lk : x.ky.length = 16
  no : x.no < 18446744073709551616
  st : I64c x.st
  en : I64c x.en
  fl : I64c x.fl
structure cdOk (x : Cd) : Prop where
  lc : x.cl.length ≤ 1000
  lt : x.tk.length ≤ 100000
  ls : x.sv.length ≤ 1000
  w : cdW x
theorem cdC_length {x : Cd} (h : x.ky.length = 16) (A : Option Addr) (c : Nat) : (cdC x A c).length = 23 := by
  rw [cdC, List.length_append, grC, gcells_length _ _ _ _ _ _ h]; rfl
theorem cdC_one (x : Cd) (A : Option Addr) (c : Nat) : ∀ u ∈ cdC x A c, u.oneCell' = true := by
  intro u hu
  rcases List.mem_append.1 hu with hu | hu
  · simp only [List.mem_cons, List.not_mem_nil, or_false] at hu
    rcases hu with rfl | rfl <;> rfl
  · unfold grC gcells at hu
    rcases List.mem_append.1 hu with hu | hu
    · rcases List.mem_append.1 hu with hu | hu
      · rw [List.mem_singleton.1 hu]; rfl
      · exact bcells_one _ u hu
    · simp only [List.mem_cons, List.not_mem_nil, or_false] at hu
      rcases hu with rfl | rfl | rfl | rfl <;> rfl
theorem cdC_cl (x : Cd) (A : Option Addr) (c : Nat) : (cdC x A c)[0]? = some (.string ⟨x.cl.toArray⟩) := rfl
theorem cdC_tk (x : Cd) (A : Option Addr) (c : Nat) : (cdC x A c)[1]? = some (.slice A x.tk.length c) := rfl
theorem cdC_sv (x : Cd) (A : Option Addr) (c : Nat) : (cdC x A c)[2]? = some (.string ⟨x.sv.toArray⟩) := rfl
theorem cdC_en {x : Cd} (h : x.ky.length = 16) (A : Option Addr) (c : Nat) : (cdC x A c)[21]? = some (.int .i64 x.en) := by
  unfold cdC grC gcells
  rw [List.getElem?_append_right (by simp)]
  simp [bcells_length, h]
theorem cdC_gr {x : Cd} (h : x.ky.length = 16) (A : Option Addr) (c : Nat) : ((cdC x A c).drop 2).take 21 = grC x := by
  show (grC x).take 21 = grC x
  exact List.take_of_length_le (by rw [grC, gcells_length _ _ _ _ _ _ h]; exact Nat.le_refl _)
def zeroCd : Cd := ⟨[], [], [], zeros 16, 0, 0, 0, 0⟩
def zeroCe : Ce := (zeroCd, none, 0)
theorem zeroCe_length : (ceC zeroCe).length = 23 := cdC_length (zeros_length 16) _ _
theorem zeroC_run (w : World) : (zeroValue 74).run Tryd.prog w = .ok (.agg (ceC zeroCe).toArray) w := by kernel_rfl
theorem aggC : AggT Tryd.prog 74 23 := ⟨fun _ => by kernel_rfl, by kernel_rfl⟩
abbrev Cm := List (List UInt8 × Ce)
/-- The tickets' bytes lie elsewhere than in the map. -/
def TBk (w : World) (b : Nat) (p : Ce) : Prop := RB w w.heap.size p.2.1 p.1.tk p.2.2 ∧ ∀ a, p.2.1 = some a → p.1.tk = [] ∨ a.block ≠ b
theorem TBk.none {w w' : World} {b : Nat} {p : Ce} (h : TBk w b p) (hg : w.grownBy w' Option.none) : TBk w' b p := ⟨h.1.row_ hg, h.2⟩
theorem TBk.map {w w' : World} {b : Nat} {p : Ce} (h : TBk w b p) (hg : w.grownBy w' (some b)) : TBk w' b p := by
  refine ⟨⟨h.1.1, h.1.2.1, h.1.2.2.imp id fun ⟨a, hA, hc⟩ => ⟨a, hA, fun k u hu => ?_⟩⟩, h.2⟩
  obtain ⟨hb, hcell⟩ := hc k u hu
  refine ⟨Nat.lt_of_lt_of_le hb hg.size, ?_⟩
  have hne : some b ≠ some a.block := by
    rcases h.2 a hA with h1 | h1
    · rw [h1] at hu; simp at hu
    · exact fun e => h1 (by injection e with e; exact e.symm)
  have hblk := hg.block a.block hb (fun e => hne e.symm)
  rw [← hcell]
  unfold World.cell?
  rw [add_block, hblk]
/-- Each stands under its server's name, and is fine. -/
def CmOk (w : World) (b : Nat) (M : Cm) : Prop := ∀ p ∈ M, p.1 = p.2.1.sv ∧ cdOk p.2.1 ∧ TBk w b p.2
theorem CmOk.none {w w' : World} {b : Nat} {M : Cm} (h : CmOk w b M) (hg : w.grownBy w' Option.none) : CmOk w' b M := fun p hp => ⟨(h p hp).1, (h p hp).2.1, (h p hp).2.2.none hg⟩
theorem CmOk.map {w w' : World} {b : Nat} {M M' : Cm} (h : CmOk w b M) (hg : w.grownBy w' (some b)) (hs : ∀ p ∈ M', p ∈ M) : CmOk w' b M' := fun p hp => ⟨(h p (hs p hp)).1, (h p (hs p hp)).2.1, (h p (hs p hp)).2.2.map hg⟩

theorem isOver_any (p : Ce) (hk : p.1.ky.length = 16) (now : Int) (w : World) : Calls Tryd.prog 63 #[.agg (ceC p).toArray, .int .i64 now] w fun e w' => e = .returned (.bool (decide (p.1.en < now))) ∧ w.grownBy w' none := by
  have q0 := (CB.new w 74 (ceC p)).at_ (cdC_en hk p.2.1 p.2.2)
  have HG := Lib.hid (grown_alloc w (.cells (ceC p).toArray 74) none)
  clear hk
  go_enter Tryd.func63, Tryd.ntmps63
  go_wp2
  go_ret
  exact ⟨rfl, HG.out⟩
theorem over_any (s : Value) (p : Ce) (hk : p.1.ky.length = 16) (now : Int) (w : World) (nb : Nat) (hb : w.cell? ⟨nb, 0, none⟩ = some (.int .i64 now)) :
    Calls Tryd.prog 65 #[s, .agg (ceC p).toArray, .pointer (some ⟨nb, 0, none⟩)] w fun e w' => e = .returned (.bool (decide (p.1.en < now))) ∧ w.grownBy w' none := by
  have q0 : (w.alloc (.cells (ceC p).toArray 74)).cell? ⟨nb, 0, none⟩ = some (.int .i64 now) := cell_alloc hb _
  have HB := Lib.hid (CB.new w 74 (ceC p))
  have HG := Lib.hid (grown_alloc w (.cells (ceC p).toArray 74) none)
  have HK := Lib.hid hk
  have HL := Lib.hid (cdC_length hk p.2.1 p.2.2)
  clear hk hb
  go_enter Tryd.func65, Tryd.ntmps65
  go_wp2_with (first
    | (refine wpList_loadC (off := 0) (p := ceC p) aggC rfl (.tmp 4) rfl HB.out (take_all HL.out) (by rw [show (ceC p).length = 23 from HL.out]; omega) (by first | rfl | go_simp) ?_)
    | (go_at_call 63; refine (isOver_any p HK.out now _).mono ?_; rintro e w1 ⟨rfl, g1⟩; have G1 := Lib.hid (grown_trans' HG.out g1); clear g1))
  go_ret
  exact ⟨rfl, G1.out⟩

/-- Is what a key reads as one of these that is over? -/
def pdC (P : Program) (k : TypeId) (M : Cm) (now : Int) (kl : Lit) (_ : DataW Value) : Bool := M.any fun p => (litOf P k strV p.1).sameKey kl && decide (p.2.1.en < now)
theorem uniqM {β : Type} {M : List (List UInt8 × β)} (hd : (keysM M).Nodup) {p q : List UInt8 × β} (hp : p ∈ M) (hq : q ∈ M) (h : p.1 = q.1) : p = q := by
  have hpw : M.Pairwise (fun p q => p.1 ≠ q.1) := List.pairwise_map.1 hd
  clear hd
  induction M with
  | nil => cases hp
  | cons r M ih =>
    obtain ⟨h3, h4⟩ := List.pairwise_cons.1 hpw
    rcases List.mem_cons.1 hp with e1 | h1
    · rcases List.mem_cons.1 hq with e2 | h2
      · rw [e1, e2]
      · exact absurd (by rw [← e1]; exact h) (h3 _ h2)
    · rcases List.mem_cons.1 hq with e2 | h2
      · exact absurd (by rw [← e2]; exact h.symm) (h3 _ h1)
      · exact ih h1 h2 h4
set_option maxRecDepth 10000 in
theorem pdC_at {M : Cm} (hF : FineM Tryd.prog 9 strV M) {now : Int} {p : List UInt8 × Ce} (hp : p ∈ M) (d : DataW Value) : pdC Tryd.prog 9 M now (litOf Tryd.prog 9 strV p.1) d = decide (p.2.1.en < now) := by
  unfold pdC
  rw [Bool.eq_iff_iff, List.any_eq_true]
  constructor
  · rintro ⟨x, hx, h⟩
    rw [Bool.and_eq_true] at h
    have := lit_inj keyedS strV_inj (hF.2 _ (mem_keysM.2 ⟨x.2, hx⟩)) (hF.2 _ (mem_keysM.2 ⟨p.2, hp⟩)) (WideAt.sameKey_eq h.1)
    rw [← uniqM hF.1 hx hp this]
    exact h.2
  · intro h
    exact ⟨p, hp, by rw [h, WideAt.sameKey_self (keyedS.key (hF.2 _ (mem_keysM.2 ⟨p.2, hp⟩)))]; rfl⟩
def liveM (M : Cm) (now : Int) : Cm := M.filter fun p => !decide (p.2.1.en < now)
set_option maxRecDepth 10000 in
/-- What comes out of the map is one of its entries. -/
theorem cameC_of {M : Cm} {left : Lit → Bool} {kl : Lit} {y : DataW Value} {es : List (Lit × DataW Value)} (hes : (datM Tryd.prog 9 strV ceV M) = .map es) {pd : Lit → DataW Value → Bool} (hat : ∀ zd, (Fk pd es left).atKey kl zd = y) :
    ∃ p ∈ M, litOf Tryd.prog 9 strV p.1 = kl ∧ y = .held (ceV p.2) := by
  have hh : Maps.has (Fk pd es left) kl = true := has_true_of_atKey hat
  unfold datM at hes
  have e : (M.map (ent Tryd.prog 9 strV ceV)).foldr DataW.insert [] = es := by injection hes
  have h2 := hat .nil
  unfold Fk DataW.atKey at h2
  simp only at h2
  cases hq : (List.filter (fun p => !pd p.1 p.2 || left p.1) es).find? (fun p => p.1.sameKey kl) with
  | none =>
    obtain ⟨p, hp, hs⟩ := List.any_eq_true.1 hh
    have := List.find?_eq_none.1 hq p hp
    exact absurd hs this
  | some q =>
    rw [hq] at h2
    have hqm := (List.mem_filter.1 (List.mem_of_find?_eq_some hq)).1
    have hqk := List.find?_some hq
    rw [← e] at hqm
    obtain ⟨z, hz, rfl⟩ := List.mem_map.1 (mem_sorted.1 hqm)
    exact ⟨z, hz, WideAt.sameKey_eq hqk, h2.symm⟩

set_option maxRecDepth 100000 in
set_option maxHeartbeats 2000000 in
theorem delC_any (b nb : Nat) (M : Cm) (now : Int) (w : World) (hM : MT Tryd.prog 9 strV ceV w b M) (hok : ∀ p ∈ M, p.2.1.ky.length = 16) (hnb : w.cell? ⟨nb, 0, none⟩ = some (.int .i64 now)) (hne : nb ≠ b) :
    Calls Tryd.prog 64 #[.map (some b), .func (.func 65) #[] #[.pointer (some ⟨nb, 0, none⟩)]] w
      fun e w' => e = .returned (.tuple #[]) ∧ MT Tryd.prog 9 strV ceV w' b (liveM M now) ∧ w.grownBy w' (some b) := by
  have hown := hM.2
  obtain ⟨es0, hes, hap, hkeys⟩ := hown.entries keyedS
  have HES := Lib.hid hes
  have HNB := Lib.hid hnb
  have HNE := Lib.hid hne
  have HOK := Lib.hid hok
  have HF := Lib.hid hM.1
  have HBL := Lib.hid (World.block_lt_of_cell? w _ hnb)
  rw [hes] at hown
  clear hM hnb hne hok hes
  go_enter Tryd.func64, Tryd.ntmps64
  go_wp2_with (first
    | (at_range; refine wpList_range_own _ rfl _ 118 rfl 9 74 keyedS Tryd.underlying118 RV b _ _ rfl hown ?_; intro w0 hrg0 hg0 hs0)
    | go_in)
  go_loopw [8] (fun _ wr => ∃ (left : Lit → Bool) (cnt : Nat), wr.ranges Tryd.prog 9 RV b w.heap.size M.length (Fk (pdC Tryd.prog 9 M now) es0 left) left cnt ∧ w.grownBy wr (some b))
    (fun _ wr => wr.rangeLeft b w.heap.size)
  case atStart => exact ⟨_, _, by rw [Fk_start hkeys]; exact hrg0, hg0.but _⟩
  case round =>
    obtain ⟨left, cnt, hrg, hgw⟩ := hrel
    go_wp2_with (first
      | (at_next; refine wpList_next_ranges _ rfl _ rfl 9 keyedS RV id id (fun key _ _ => ⟨key, rfl⟩) (fun v _ _ => ⟨v, rfl⟩) b w.heap.size _ _ _ _ rfl hrg ?_ ?_)
      | go_in)
    · intro _ hl0
      go_wp2
      go_end0
      refine ⟨rfl, MT.mk (HF.out.sub (show (liveM M now).Sublist M from List.filter_sublist)) hrg.owns ?_, hgw⟩
      rw [Fk_end hl0, ← HES.out]
      exact strike_datM keyedS strV_inj HF.out _ (fun p => decide (p.2.1.en < now)) (fun p hp => pdC_at HF.out hp _)
    · intro x c kl yd yp w1 cnt1 hkey hlx hv hat hrg1 hlt hg1 hs1 hen
      obtain ⟨p, hp, hka, hyd⟩ := cameC_of HES.out hat
      have hok1 := HF.out.2 _ (mem_keysM.2 ⟨p.2, hp⟩)
      obtain rfl : x = strV p.1 := keyedS.inj hkey (by rw [← hka]; exact hok1)
      obtain rfl : c = ceV p.2 := by
        have h1 : yd = DataW.held c := by unfold RV at hv; simpa using (congrArg (fun o => o.map Prod.fst) hv).symm
        have h2 : DataW.held c = DataW.held (ceV p.2) := h1.symm.trans hyd
        injection h2
      have hpd : pdC Tryd.prog 9 M now kl yd = decide (p.2.1.en < now) := by rw [← hka]; exact pdC_at HF.out hp _
      have hgw1 := hgw.andThen hg1 (fun j hj => by cases hj; exact Or.inl (Nat.le_refl _))
      have hcn : w1.cell? ⟨nb, 0, none⟩ = some (.int .i64 now) := (World.cell?_of_block (hgw1.block nb HBL.out (fun e => HNE.out (by injection e)))).trans HNB.out
      have HOA := Lib.hid (HOK.out p hp)
      have HLA := Lib.hid (show (ceC p.2).length = 23 from cdC_length (HOK.out p hp) _ _)
      have HRG := Lib.hid hrg1
      have HKEY := Lib.hid (show keyOf Tryd.prog 9 (strV p.1) = some kl from hkey)
      have HAT := Lib.hid hat
      have HLX := Lib.hid hlx
      have HLT := Lib.hid hlt
      have HEQ := Lib.hid hrg.left_eq
      have HGW := Lib.hid hgw1
      have HPD := Lib.hid hpd
      have HCN := Lib.hid hcn
      have HNL := Lib.hid (World.block_lt_of_cell? w1 _ hcn)
      have hrl := hrg1.lt
      have hbl := hrg1.owns.lt
      have hen' : (Instr.entry (.pointer (some ⟨w.heap.size, 0, none⟩))).run Tryd.prog w1 = .ok (.tuple #[strV p.1, .agg (ceC p.2).toArray]) w1 := hen
      have HB1 := Lib.hid (CB.new w1 74 (ceC zeroCe))
      have HG1 := Lib.hid (grown_alloc w1 (.cells (ceC zeroCe).toArray 74) none)
      have TK0 := Lib.hid True.intro
      clear hgw hg1 hrg1 hkey hat hlx hlt hgw1 hcn hen hs1 hka hyd hv hp hpd hrg hok1
      show wpList _ _ _ _ _ _
      cases hf : decide (p.2.1.en < now) with
      | false =>
        have HF1 := Lib.hid hf
        clear hf
        go_wp2_with (first
          | (have hx := TK0; refine wpList_allocC zeroC_run rfl rfl ?_; clear hx TK0; have TK1 := Lib.hid True.intro)
          | (have hx := TK1; refine wpList_storeC (off := 0) (p := ceC p.2) aggC.hi rfl (.tmp 5) (.tmp 12) rfl (.agg (ceC p.2).toArray) rfl (cdC_one _ _ _) HB1.out HLA.out (by rw [zeroCe_length]; omega) (by first | rfl | go_simp) (by first | rfl | go_simp) ?_; intro w2 h2 g2; rw [over_all _ _ (Nat.le_of_eq (by rw [zeroCe_length, HLA.out]))] at h2; have B2 := Lib.hid h2; have G2 := Lib.hid (none_new HG1.out g2 (Nat.le_refl _)); clear h2 g2 hx TK1; have TK2 := Lib.hid True.intro)
          | (have hx := TK2; refine wpList_loadC (off := 0) (p := ceC p.2) aggC rfl (.tmp 5) rfl B2.out (take_all HLA.out) (by rw [HLA.out]; omega) (by first | rfl | go_simp) ?_; clear hx TK2)
          | (go_at_call 65; refine (over_any _ p.2 HOA.out now _ nb ((World.cell?_of_block (G2.out.block nb HNL.out (by simp))).trans HCN.out)).mono ?_; rintro e w4 ⟨rfl, g4⟩; rw [HF1.out]; have G4 := Lib.hid (grown_trans' G2.out g4); clear g4))
        go_roundw
        case rel => exact ⟨_, cnt1, by rw [← Fk_stays hap (keyedS.key HKEY.out) HLX.out (HPD.out.trans HF1.out) HAT.out]; exact HRG.out.kept G4.out (by simp) (by simp), HGW.out.andThen G4.out (fun j hj => by cases hj)⟩
        case measure => rw [(HRG.out.kept G4.out (by simp) (by simp)).left_eq, HEQ.out]; exact HLT.out
      | true =>
        have HF1 := Lib.hid hf
        clear hf
        go_wp2_with (first
          | (have hx := TK0; refine wpList_allocC zeroC_run rfl rfl ?_; clear hx TK0; have TK1 := Lib.hid True.intro)
          | (have hx := TK1; refine wpList_storeC (off := 0) (p := ceC p.2) aggC.hi rfl (.tmp 5) (.tmp 12) rfl (.agg (ceC p.2).toArray) rfl (cdC_one _ _ _) HB1.out HLA.out (by rw [zeroCe_length]; omega) (by first | rfl | go_simp) (by first | rfl | go_simp) ?_; intro w2 h2 g2; rw [over_all _ _ (Nat.le_of_eq (by rw [zeroCe_length, HLA.out]))] at h2; have B2 := Lib.hid h2; have G2 := Lib.hid (none_new HG1.out g2 (Nat.le_refl _)); clear h2 g2 hx TK1; have TK2 := Lib.hid True.intro)
          | (have hx := TK2; refine wpList_loadC (off := 0) (p := ceC p.2) aggC rfl (.tmp 5) rfl B2.out (take_all HLA.out) (by rw [HLA.out]; omega) (by first | rfl | go_simp) ?_; clear hx TK2)
          | (go_at_call 65; refine (over_any _ p.2 HOA.out now _ nb ((World.cell?_of_block (G2.out.block nb HNL.out (by simp))).trans HCN.out)).mono ?_; rintro e w4 ⟨rfl, g4⟩; rw [HF1.out]; have G4 := Lib.hid (grown_trans' G2.out g4); clear g4)
          | (at_delete; refine wpList_delete_ranges _ rfl _ _ 118 9 rfl 74 keyedS Tryd.underlying118 RV b w.heap.size _ _ _ _ rfl (HRG.out.kept G4.out (by simp) (by simp)) _ _ rfl HKEY.out ?_; intro w5 cnt5 hrg5 hle hturn; go_frame))
        rw [strike_twice] at hrg5
        go_roundw
        case rel => exact ⟨_, cnt5, by rw [← Fk_struck hap (keyedS.key HKEY.out) HLX.out (HPD.out.trans HF1.out) HAT.out]; exact hrg5, (HGW.out.andThen G4.out (fun j hj => by cases hj)).andThen hturn.grown (fun j hj => by cases hj; exact Or.inr rfl)⟩
        case measure => rw [hrg5.left_eq, HEQ.out]; have := HLT.out; omega
end Go.Proofs.YtejmbabeniekhaaDoor
namespace Go.Proofs.YtejmbabeniekhaaDoor
open Go.RowKit Go.Maps Go.WideMaps

theorem aggGc : AggT Tryd.prog 72 21 := ⟨fun _ => by kernel_rfl, by kernel_rfl⟩
def rightC (x : Cd) : Bool := parses x.cl && gOk x.sv x.st x.en x.fl
set_option maxRecDepth 10000 in
set_option maxHeartbeats 1000000 in
theorem cisRight_any (p : Ce) (h : cdOk p.1) (w : World) (hM : ML w) : Calls Tryd.prog 62 #[.agg (ceC p).toArray] w fun e w' => e = .returned (.bool (rightC p.1)) ∧ w.grownBy w' none := by
  have HO := Lib.hid h
  have HL := Lib.hid (show p.1.cl.length ≤ 1000000 from Nat.le_trans h.lc (by omega))
  have HLC := Lib.hid (show (ceC p).length = 23 from cdC_length h.w.lk _ _)
  have HM0 := Lib.hid hM
  have HM := Lib.hid (show ML (w.alloc (.cells (ceC p).toArray 74)) from hM.below ((Below.refl _ _).alloc (Nat.le_refl _) _))
  have HB0 := Lib.hid (CB.new w 74 (ceC p))
  have HG := Lib.hid (grown_alloc w (.cells (ceC p).toArray 74) none)
  have q0 := HB0.out.at_ (cdC_cl p.1 p.2.1 p.2.2)
  obtain ⟨r, hr⟩ : ∃ r, r = rightC p.1 := ⟨_, rfl⟩
  rw [← hr]
  have HR := Lib.hid hr
  clear h hM hr
  cases hp : parses p.1.cl with
  | false =>
    have HP := Lib.hid hp
    have HRR := Lib.hid (show r = false by rw [HR.out, rightC, hp, Bool.false_and])
    clear hp
    go_enter Tryd.func62, Tryd.ntmps62
    go_wp2_with (first
    | (go_at_call 77; refine (parse_any _ p.1.cl rfl _ HM.out HL.out).mono ?_; intro r w1 h1; rw [Parsed, if_neg (by rw [HP.out]; simp)] at h1; obtain ⟨rfl, hb⟩ := h1; have G1 := Lib.hid (none_of_below hb (Nat.le_refl _)); have TK1 := Lib.hid True.intro; clear hb)
    | (have hx := TK1; refine wpList_allocC zeroN_run rfl rfl ?_; clear hx TK1; have TK2 := Lib.hid True.intro)
    | (have hx := TK2; refine wpList_storeC (off := 0) (p := [.slice none 0 0, .string ⟨#[]⟩]) aggN.hi rfl (.tmp 3) (.tmp 11) rfl _ rfl (nm_one _ _ _ _) (CB.new w1 138 zeroN) rfl (Nat.le_refl _) (by first | rfl | go_simp) rfl ?_; clear hx TK2; intro w4 h4 g4; have G4' := Lib.hid (none_new (grown_trans' G1.out (grown_alloc w1 _ none)) g4 G1.out.size); have B4 := Lib.hid (HB0.out.kept G4'.out); have G4 := Lib.hid (grown_trans' HG.out G4'.out); have TK3 := Lib.hid True.intro; clear h4 g4 q0))
    go_ret
    rw [HRR.out]
    exact ⟨rfl, G4.out⟩
  | true =>
    have HP := Lib.hid hp
    clear hp
    cases hg : gOk p.1.sv p.1.st p.1.en p.1.fl with
    | false =>
      have HGO := Lib.hid hg
      have HRR := Lib.hid (show r = false by rw [HR.out, rightC, hg, Bool.and_false])
      clear hg
      go_enter Tryd.func62, Tryd.ntmps62
      go_wp2_with (first
    | (go_at_call 77; refine (parse_any _ p.1.cl rfl _ HM.out HL.out).mono ?_; intro r w1 h1; rw [Parsed, if_pos HP.out] at h1; obtain ⟨g, n, ls, nr, rfl, -, -, -, -, -, -, hb⟩ := h1; have G1 := Lib.hid (none_of_below hb (Nat.le_refl _)); have TK1 := Lib.hid True.intro; clear hb)
    | (have hx := TK1; refine wpList_allocC zeroN_run rfl rfl ?_; clear hx TK1; have TK2 := Lib.hid True.intro)
    | (have hx := TK2; refine wpList_storeC (off := 0) (p := [.slice (some ⟨g, 0, none⟩) n n, .string nr]) aggN.hi rfl (.tmp 3) (.tmp 11) rfl _ rfl (nm_one _ _ _ _) (CB.new w1 138 zeroN) rfl (Nat.le_refl _) (by first | rfl | go_simp) rfl ?_; clear hx TK2; intro w4 h4 g4; have G4' := Lib.hid (none_new (grown_trans' G1.out (grown_alloc w1 _ none)) g4 G1.out.size); have B4 := Lib.hid (HB0.out.kept G4'.out); have G4 := Lib.hid (grown_trans' HG.out G4'.out); have TK3 := Lib.hid True.intro; clear h4 g4 q0)
    | (have hx := TK3; refine wpList_loadC (off := 2) (p := grC p.1) aggGc rfl (.tmp 16) rfl B4.out (cdC_gr HO.out.w.lk _ _) (by rw [HLC.out]; omega) (by first | rfl | go_simp) ?_; clear hx TK3)
    | (go_at_call 82; refine (gwrite_any _ p.1.sv p.1.ky p.1.st p.1.en p.1.fl p.1.no _ (HM0.out.below (below_of_none G4.out)) rfl HO.out.w.lk (by have := HO.out.ls; omega) HO.out.w.no).mono ?_; rintro r w5 ⟨g5, h5⟩; rw [HGO.out] at h5; rw [if_neg (by simp)] at h5; subst h5; have G5 := Lib.hid (grown_trans' G4.out g5); clear g5))
      go_ret
      rw [HRR.out]
      exact ⟨rfl, G5.out⟩
    | true =>
      have HGO := Lib.hid hg
      have HRR := Lib.hid (show r = true by rw [HR.out, rightC, hg, HP.out]; rfl)
      clear hg
      go_enter Tryd.func62, Tryd.ntmps62
      go_wp2_with (first
    | (go_at_call 77; refine (parse_any _ p.1.cl rfl _ HM.out HL.out).mono ?_; intro r w1 h1; rw [Parsed, if_pos HP.out] at h1; obtain ⟨g, n, ls, nr, rfl, -, -, -, -, -, -, hb⟩ := h1; have G1 := Lib.hid (none_of_below hb (Nat.le_refl _)); have TK1 := Lib.hid True.intro; clear hb)
    | (have hx := TK1; refine wpList_allocC zeroN_run rfl rfl ?_; clear hx TK1; have TK2 := Lib.hid True.intro)
    | (have hx := TK2; refine wpList_storeC (off := 0) (p := [.slice (some ⟨g, 0, none⟩) n n, .string nr]) aggN.hi rfl (.tmp 3) (.tmp 11) rfl _ rfl (nm_one _ _ _ _) (CB.new w1 138 zeroN) rfl (Nat.le_refl _) (by first | rfl | go_simp) rfl ?_; clear hx TK2; intro w4 h4 g4; have G4' := Lib.hid (none_new (grown_trans' G1.out (grown_alloc w1 _ none)) g4 G1.out.size); have B4 := Lib.hid (HB0.out.kept G4'.out); have G4 := Lib.hid (grown_trans' HG.out G4'.out); have TK3 := Lib.hid True.intro; clear h4 g4 q0)
    | (have hx := TK3; refine wpList_loadC (off := 2) (p := grC p.1) aggGc rfl (.tmp 16) rfl B4.out (cdC_gr HO.out.w.lk _ _) (by rw [HLC.out]; omega) (by first | rfl | go_simp) ?_; clear hx TK3)
    | (go_at_call 82; refine (gwrite_any _ p.1.sv p.1.ky p.1.st p.1.en p.1.fl p.1.no _ (HM0.out.below (below_of_none G4.out)) rfl HO.out.w.lk (by have := HO.out.ls; omega) HO.out.w.no).mono ?_; rintro r w5 ⟨g5, h5⟩; rw [HGO.out] at h5; rw [if_pos rfl] at h5; obtain ⟨v5, rfl, -⟩ := h5; have G5 := Lib.hid (grown_trans' G4.out g5); clear g5))
      go_ret
      rw [HRR.out]
      exact ⟨rfl, G5.out⟩

theorem RB.apartC {w w' : World} {r : Option Nat} {A : Option Addr} {l : List UInt8} {c : Nat} (h : RB w w.heap.size A l c) (hg : w.grownBy w' r) (ha : ∀ a, A = some a → l = [] ∨ r ≠ some a.block) : RB w' w'.heap.size A l c := by
  refine ⟨h.1, h.2.1, h.2.2.imp id fun ⟨a, hA, hc⟩ => ⟨a, hA, fun k u hu => ?_⟩⟩
  obtain ⟨hb, hcell⟩ := hc k u hu
  refine ⟨Nat.lt_of_lt_of_le hb hg.size, ?_⟩
  have hne : r ≠ some a.block := by
    rcases ha a hA with rfl | h1
    · simp at hu
    · exact h1
  have hblk := hg.block a.block hb (fun e => hne e.symm)
  rw [← hcell]
  unfold World.cell?
  rw [show (a.add k).block = a.block from add_block _ _, hblk]
theorem szSC : (Tryd.prog.info? 9).map (·.size) = some 1 := by kernel_rfl
theorem szBC : (Tryd.prog.info? 23).map (·.size) = some 1 := by kernel_rfl
theorem over_cl (x : Cd) (A : Option Addr) (c : Nat) : over (cdC x A c) 0 [.string ⟨x.cl.toArray⟩] = cdC x A c := rfl
theorem over_tk (x : Cd) (A A' : Option Addr) (c c' : Nat) : over (cdC x A c) 1 [.slice A' x.tk.length c'] = cdC x A' c' := rfl
theorem over_sv (x : Cd) (A : Option Addr) (c : Nat) : over (cdC x A c) 2 [.string ⟨x.sv.toArray⟩] = cdC x A c := rfl
/-- A copy of a ticket. -/
def ApartC (w : World) (x : Cd) (e : Ending) (w' : World) : Prop := ∃ A' c', e = .returned (.agg (cdC x A' c').toArray) ∧ RB w' w'.heap.size A' x.tk c' ∧ (∀ a, A' = some a → w.heap.size ≤ a.block) ∧ w.grownBy w' none
set_option maxRecDepth 10000 in
set_option maxHeartbeats 2000000 in
theorem capart_any (x : Cd) (A : Option Addr) (c : Nat) (h : cdOk x) (w : World) (hT : RB w w.heap.size A x.tk c) : Calls Tryd.prog 66 #[.agg (cdC x A c).toArray] w (ApartC w x) := by
  have HO := Lib.hid h
  have HL := Lib.hid (cdC_length h.w.lk A c)
  have HL2 := Lib.hid (fun A' c' => (cdC_length h.w.lk A' c' : (cdC x A' c').length = 23))
  have HS1 := Lib.hid (show (⟨x.cl.toArray⟩ : ByteArray).size ≤ 1000000 by show x.cl.toArray.size ≤ _; rw [List.size_toArray]; have := h.lc; omega)
  have HS2 := Lib.hid (show (⟨x.sv.toArray⟩ : ByteArray).size ≤ 1000000 by show x.sv.toArray.size ≤ _; rw [List.size_toArray]; have := h.ls; omega)
  have HB0 := Lib.hid ((CB.new w 74 (cdC x A c)).alloc (.cells (ceC zeroCe).toArray 74))
  have HZ0 := Lib.hid (CB.new1 w (.cells (cdC x A c).toArray 74) 74 (ceC zeroCe))
  have HG := Lib.hid (grown_trans' (grown_alloc w (.cells (cdC x A c).toArray 74) none) (grown_alloc _ (.cells (ceC zeroCe).toArray 74) none))
  have HT := Lib.hid hT
  have HWZ := Lib.hid (show ((w.alloc (.cells (cdC x A c).toArray 74)).alloc (.cells (ceC zeroCe).toArray 74)).heap.size = w.heap.size + 2 by rw [World.size_alloc, World.size_alloc])
  have q0 := HB0.out.at_ (cdC_cl x A c)
  have TK0 := Lib.hid True.intro
  clear h hT
  go_enter Tryd.func66, Tryd.ntmps66
  go_wp2_with (first
    | (have hx := TK0; refine wpList_allocC zeroC_run rfl rfl ?_; clear hx TK0; have TK1 := Lib.hid True.intro)
    | (have hx := TK1; go_at_call 69; refine (sclone_any _ _ HS1.out).mono ?_; rintro r w1 ⟨rfl, hb1⟩; have G1' := Lib.hid (none_of_below hb1 (Nat.le_refl _)); have B1 := Lib.hid (HB0.out.kept G1'.out); have Z1 := Lib.hid (HZ0.out.kept G1'.out); have G1 := Lib.hid (grown_trans' HG.out G1'.out); have SZ1 := Lib.hid (show w.heap.size + 2 ≤ w1.heap.size from Nat.le_trans (Nat.le_of_eq HWZ.out.symm) G1'.out.size); clear hb1 q0 hx TK1; have TK2 := Lib.hid True.intro)
    | (have hx := TK2; refine wpList_storeC (off := 0) (p := [.string ⟨x.cl.toArray⟩]) szSC rfl (.tmp 6) (.tmp 5) rfl (.string ⟨x.cl.toArray⟩) rfl (fun u hu => by rw [List.mem_singleton.1 hu]; rfl) B1.out rfl (by rw [HL.out]; omega) (by first | rfl | go_simp) (by first | rfl | go_simp) ?_; intro w2 h2 g2; rw [over_cl] at h2; have B2 := Lib.hid h2; have Z2 := Lib.hid (Z1.out.grown g2 (by omega)); have G2 := Lib.hid (none_new G1.out g2 (Nat.le_refl _)); have SZ2 := Lib.hid (Nat.le_trans SZ1.out g2.size)
       have T2 := Lib.hid ((HT.out.kept G2.out (Nat.le_refl _)).more G2.out.size)
       have q1 := B2.out.at_ (cdC_tk x A c); clear h2 g2 hx TK2; have TK3 := Lib.hid True.intro)
    | (have hx := TK3; go_at_call 83; refine (clone_any A x.tk c _ _ rfl T2.out (by have := HO.out.lt; omega)).mono ?_; rintro r w3 ⟨A', c', rfl, ho3, hb3⟩; obtain ⟨A3, c3, hv3, hr3, hl3⟩ := ho3.shape; injection hv3 with e1 e2 e3; subst e1; subst e3; have R3 := Lib.hid hr3; have L3 := Lib.hid hl3; have G3' := Lib.hid (none_of_below hb3 (Nat.le_refl _)); have B3 := Lib.hid (B2.out.kept G3'.out); have Z3 := Lib.hid (Z2.out.kept G3'.out); have G3 := Lib.hid (grown_trans' G2.out G3'.out); clear hb3 ho3 e2 hr3 hl3 q1 hx TK3; have TK4 := Lib.hid True.intro)
    | (have hx := TK4; refine wpList_storeC (off := 1) (p := [.slice A' x.tk.length c']) szBC rfl (.tmp 10) (.tmp 9) rfl (.slice A' x.tk.length c') rfl (fun u hu => by rw [List.mem_singleton.1 hu]; rfl) B3.out rfl (by rw [HL.out]; omega) (by first | rfl | go_simp) (by first | rfl | go_simp) ?_; intro w4 h4 g4; rw [over_tk] at h4; have B4 := Lib.hid h4; have Z4 := Lib.hid (Z3.out.grown g4 (by omega)); have G4 := Lib.hid (none_new G3.out g4 (Nat.le_refl _))
       have R4 := Lib.hid (R3.out.apartC g4 (fun a ha => .inr (fun e => by have h1 := L3.out a ha; have h2 := SZ2.out; injection e with e; omega)))
       have q2 := B4.out.at_ (cdC_sv x A' c'); clear h4 g4 hx TK4; have TK5 := Lib.hid True.intro)
    | (have hx := TK5; go_at_call 69; refine (sclone_any _ _ HS2.out).mono ?_; rintro r w5 ⟨rfl, hb5⟩; have G5' := Lib.hid (none_of_below hb5 (Nat.le_refl _)); have B5 := Lib.hid (B4.out.kept G5'.out); have Z5 := Lib.hid (Z4.out.kept G5'.out); have R5 := Lib.hid (R4.out.row_ G5'.out); have G5 := Lib.hid (grown_trans' G4.out G5'.out); clear hb5 q2 hx TK5; have TK6 := Lib.hid True.intro)
    | (have hx := TK6; refine wpList_storeC (off := 2) (p := [.string ⟨x.sv.toArray⟩]) szSC rfl (.tmp 16) (.tmp 14) rfl (.string ⟨x.sv.toArray⟩) rfl (fun u hu => by rw [List.mem_singleton.1 hu]; rfl) B5.out rfl (by rw [HL2.out]; omega) (by first | rfl | go_simp) (by first | rfl | go_simp) ?_; intro w6 h6 g6; rw [over_sv] at h6; have B6 := Lib.hid h6; have Z6 := Lib.hid (Z5.out.grown g6 (by omega)); have G6 := Lib.hid (none_new G5.out g6 (Nat.le_refl _))
       have R6 := Lib.hid (R5.out.apartC g6 (fun a ha => .inr (fun e => by have h1 := L3.out a ha; have h2 := SZ2.out; injection e with e; omega)))
       clear h6 g6 hx TK6; have TK7 := Lib.hid True.intro)
    | (have hx := TK7; refine wpList_loadC (off := 0) (p := cdC x A' c') aggC rfl (.tmp 1) rfl B6.out (take_all (HL2.out A' c')) (by rw [HL2.out]; omega) (by first | rfl | go_simp) ?_; clear hx TK7; have TK8 := Lib.hid True.intro)
    | (have hx := TK8; refine wpList_storeC (off := 0) (p := cdC x A' c') aggC.hi rfl (.tmp 2) (.tmp 17) rfl (.agg (cdC x A' c').toArray) rfl (cdC_one _ _ _) Z6.out (HL2.out A' c') (by rw [zeroCe_length]; omega) (by first | rfl | go_simp) (by first | rfl | go_simp) ?_; intro w7 h7 g7; rw [over_all _ _ (Nat.le_of_eq (by rw [zeroCe_length, HL2.out]))] at h7; have C7 := Lib.hid h7; have G7 := Lib.hid (none_new G6.out g7 (Nat.le_succ _))
       have R7 := Lib.hid (R6.out.apartC g7 (fun a ha => .inr (fun e => by have h1 := L3.out a ha; have h2 := SZ2.out; injection e with e; omega)))
       clear h7 g7 hx TK8))
  refine bodyPost_ret (results_C1 rfl _ aggC C7.out (HL2.out A' c') rfl) rfl ⟨A', c', rfl, R7.out, fun a ha => ?_, G7.out⟩
  have h1 := L3.out a ha
  have h2 := SZ2.out
  omega

/-- A Cache lies in block c, its map in block b. -/
def KS (w : World) (c b : Nat) (M : Cm) : Prop := CB w c 120 [.map (some b)] ∧ MT Tryd.prog 9 strV ceV w b M ∧ c ≠ b ∧ CmOk w b M
theorem KS.none {w w' : World} {c b : Nat} {M : Cm} (h : KS w c b M) (hg : w.grownBy w' none) : KS w' c b M := ⟨h.1.kept hg, h.2.1.none hg, h.2.2.1, h.2.2.2.none hg⟩
theorem KS.lt {w : World} {c b : Nat} {M : Cm} (h : KS w c b M) : c < w.heap.size ∧ b < w.heap.size := ⟨h.1.lt, h.2.1.lt⟩
theorem KS.map {w w' : World} {c b : Nat} {M M' : Cm} (h : KS w c b M) (hM : MT Tryd.prog 9 strV ceV w' b M') (hg : w.grownBy w' (some b)) (hs : ∀ p ∈ M', p ∈ M) : KS w' c b M' :=
  ⟨h.1.grown hg h.2.2.1, hM, h.2.2.1, h.2.2.2.map hg hs⟩

theorem cnew_any (w : World) : Calls Tryd.prog 32 #[] w fun e w' => e = .returned (.pointer (some ⟨w.heap.size + 1, 0, none⟩)) ∧ KS w' (w.heap.size + 1) w.heap.size [] ∧ w.grownBy w' none := by
  have hmm := @run_makeMap Tryd.prog
  have HC := Lib.hid (CB.new1 w (.map #[] 0) 120 [.map (some w.heap.size)])
  have HM := Lib.hid ((MT.made (P := Tryd.prog) (k := 9) (kv := strV) (vv := ceV) w).alloc (.cells #[.map (some w.heap.size)] 120))
  have HG := Lib.hid (grown_trans' (grown_alloc w (.map #[] 0) none) (grown_alloc (w.alloc (.map #[] 0)) (.cells #[.map (some w.heap.size)] 120) none))
  go_enter Tryd.func32, Tryd.ntmps32
  go_wp2
  go_ret
  exact ⟨rfl, ⟨HC.out, HM.out, by omega, fun a h => by cases h⟩, HG.out⟩

/-- A ticket that is found. -/
def FoundC (w : World) (x : Cd) (e : Ending) (w' : World) : Prop := ∃ A' c', e = .returned (.tuple #[.agg (cdC x A' c').toArray, .bool true]) ∧ RB w' w'.heap.size A' x.tk c' ∧ (∀ a, A' = some a → w.heap.size ≤ a.block) ∧ w.grownBy w' none
set_option maxRecDepth 10000 in
set_option maxHeartbeats 2000000 in
theorem cfind_in (n : List UInt8) (hn : n.length ≤ 1000) (now : Int) (w : World) (c b : Nat) (M : Cm) (h : KS w c b M) (p : Ce) (hin : (n, p) ∈ M) (ho : decide (p.1.en < now) = false) :
    Calls Tryd.prog 37 #[.pointer (some ⟨c, 0, none⟩), strV n, .int .i64 now] w (FoundC w p.1) := by
  have HOK := Lib.hid (okS n (by omega))
  have HKS := Lib.hid h
  have HLZ := Lib.hid zeroCe_length
  have TK0 := Lib.hid True.intro
  have HIN := Lib.hid hin
  have HOV := Lib.hid ho
  have HO := Lib.hid (h.2.2.2 _ hin).2.1
  have HT := Lib.hid (h.2.2.2 _ hin).2.2
  have HKY := Lib.hid HO.out.w.lk
  have HLV := Lib.hid (show (ceC p).length = 23 from cdC_length HO.out.w.lk _ _)
  have HL2 := Lib.hid (fun A' c' => (cdC_length HO.out.w.lk A' c' : (cdC p.1 A' c').length = 23))
  clear h hn hin ho
  go_enter Tryd.func37, Tryd.ntmps37
  go_wp2_with (first
    | (have hx := TK0; refine wpList_allocC zeroC_run rfl rfl ?_; clear hx TK0; have TK1 := Lib.hid True.intro; have HZ := Lib.hid (CB.new w 74 (ceC zeroCe)); have HG0 := Lib.hid (grown_alloc w (.cells (ceC zeroCe).toArray 74) none); have S0 := Lib.hid (HKS.out.none HG0.out); have q0 := S0.out.1.at_ (i := 0) rfl)
    | (have hx := TK1; refine wpList_lookIn keyedS strV_inj rfl _ _ rfl Tryd.underlying118 zeroC_run S0.out.2.1 rfl n p rfl HIN.out ?_; clear hx TK1; have TK2 := Lib.hid True.intro)
    | (have hx := TK2; refine wpList_allocC zeroC_run rfl rfl ?_; clear hx TK2; have TK3 := Lib.hid True.intro; have HN1 := Lib.hid (CB.new1 w (.cells (ceC zeroCe).toArray 74) 74 (ceC zeroCe)); have HZ1 := Lib.hid (HZ.out.alloc (.cells (ceC zeroCe).toArray 74)); have HG1 := Lib.hid (grown_trans' HG0.out (grown_alloc _ (.cells (ceC zeroCe).toArray 74) none)); clear q0)
    | (have hx := TK3; refine wpList_storeC (off := 0) (p := ceC p) aggC.hi rfl (.tmp 8) (.tmp 17) rfl (.agg (ceC p).toArray) rfl (cdC_one _ _ _) HN1.out HLV.out (by rw [HLZ.out]; omega) (by first | rfl | go_simp) (by first | rfl | go_simp) ?_; clear hx TK3; intro w2 h2 g2; rw [over_all _ _ (by first | exact Nat.le_refl _ | exact Nat.le_of_eq (by rw [HLZ.out, HLV.out]))] at h2; have B2 := Lib.hid h2; have Z2 := Lib.hid (HZ1.out.grown g2 (by simp)); have G2 := Lib.hid (none_new HG1.out g2 (by simp)); have TK4 := Lib.hid True.intro; clear h2 g2)
    | (have hx := TK4; refine wpList_loadCg (off := 0) (p := ceC p) aggC (by first | rfl | go_simp) (.tmp 8) rfl B2.out (take_all HLV.out) (by rw [HLV.out]; omega) (by first | rfl | go_simp) ?_; clear hx TK4; have TK5 := Lib.hid True.intro)
    | (go_at_call 63; refine (isOver_any p HKY.out now _).mono ?_; rintro r w3 ⟨rfl, g3⟩; rw [HOV.out]; have B3 := Lib.hid (B2.out.kept g3); have Z3 := Lib.hid (Z2.out.kept g3); have G3 := Lib.hid (grown_trans' G2.out g3); clear g3)
    | (have hx := TK5; refine wpList_loadC (off := 0) (p := ceC p) aggC rfl (.tmp 8) rfl B3.out (take_all HLV.out) (by rw [HLV.out]; omega) (by first | rfl | go_simp) ?_; clear hx TK5)
    | (go_at_call 66; refine (capart_any p.1 p.2.1 p.2.2 HO.out _ (HT.out.none G3.out).1).mono ?_; rintro r w4 ⟨A', c', rfl, hr4, hl4, g4⟩; have R4 := Lib.hid hr4; have L4 := Lib.hid hl4; have Z4 := Lib.hid (Z3.out.kept g4); have G4 := Lib.hid (grown_trans' G3.out g4); have TK6 := Lib.hid True.intro; clear hr4 hl4 g4)
    | (have hx := TK6; refine wpList_storeC (off := 0) (p := cdC p.1 A' c') aggC.hi rfl (.tmp 6) (.tmp 28) rfl (.agg (cdC p.1 A' c').toArray) rfl (cdC_one _ _ _) Z4.out (HL2.out A' c') (by rw [HLZ.out]; omega) (by first | rfl | go_simp) (by first | rfl | go_simp) ?_; clear hx TK6; intro w5 h5 g5; rw [over_all _ _ (Nat.le_of_eq (by rw [HLZ.out, HL2.out]))] at h5; have C5 := Lib.hid h5; have G5 := Lib.hid (none_new G4.out g5 (Nat.le_refl _))
       have R5 := Lib.hid (R4.out.apartC g5 (fun a ha => .inr (fun e => by have h1 := L4.out a ha; have h2 := Z3.out.lt; injection e with e; omega))); clear h5 g5))
  refine bodyPost_ret (results_C2 rfl _ aggC C5.out (HL2.out A' c') rfl rfl) rfl ⟨A', c', rfl, R5.out, fun a ha => ?_, G5.out⟩
  have h1 := L4.out a ha
  have h2 := G3.out.size
  omega

set_option maxRecDepth 10000 in
set_option maxHeartbeats 2000000 in
theorem cfind_out (n : List UInt8) (hn : n.length ≤ 1000) (now : Int) (w : World) (c b : Nat) (M : Cm) (h : KS w c b M) (ho : ∀ p, (n, p) ∈ M → decide (p.1.en < now) = true) :
    Calls Tryd.prog 37 #[.pointer (some ⟨c, 0, none⟩), strV n, .int .i64 now] w fun e w' => e = .returned (.tuple #[.agg (ceC zeroCe).toArray, .bool false]) ∧ w.grownBy w' none := by
  have HOK := Lib.hid (okS n (by omega))
  have HKS := Lib.hid h
  have HLZ := Lib.hid zeroCe_length
  have TK0 := Lib.hid True.intro
  by_cases hin : n ∈ keysM M
  · obtain ⟨p, hp⟩ := mem_keysM.1 hin
    have HIN := Lib.hid hp
    have HOV := Lib.hid (ho p hp)
    have HKY := Lib.hid (h.2.2.2 _ hp).2.1.w.lk
    have HLV := Lib.hid (show (ceC p).length = 23 from cdC_length HKY.out _ _)
    clear h hn hin ho hp
    go_enter Tryd.func37, Tryd.ntmps37
    go_wp2_with (first
    | (have hx := TK0; refine wpList_allocC zeroC_run rfl rfl ?_; clear hx TK0; have TK1 := Lib.hid True.intro; have HZ := Lib.hid (CB.new w 74 (ceC zeroCe)); have HG0 := Lib.hid (grown_alloc w (.cells (ceC zeroCe).toArray 74) none); have S0 := Lib.hid (HKS.out.none HG0.out); have q0 := S0.out.1.at_ (i := 0) rfl)
    | (have hx := TK1; refine wpList_lookIn keyedS strV_inj rfl _ _ rfl Tryd.underlying118 zeroC_run S0.out.2.1 rfl n p rfl HIN.out ?_; clear hx TK1; have TK2 := Lib.hid True.intro)
    | (have hx := TK2; refine wpList_allocC zeroC_run rfl rfl ?_; clear hx TK2; have TK3 := Lib.hid True.intro; have HN1 := Lib.hid (CB.new1 w (.cells (ceC zeroCe).toArray 74) 74 (ceC zeroCe)); have HZ1 := Lib.hid (HZ.out.alloc (.cells (ceC zeroCe).toArray 74)); have HG1 := Lib.hid (grown_trans' HG0.out (grown_alloc _ (.cells (ceC zeroCe).toArray 74) none)); clear q0)
    | (have hx := TK3; refine wpList_storeC (off := 0) (p := ceC p) aggC.hi rfl (.tmp 8) (.tmp 17) rfl (.agg (ceC p).toArray) rfl (cdC_one _ _ _) HN1.out HLV.out (by rw [HLZ.out]; omega) (by first | rfl | go_simp) (by first | rfl | go_simp) ?_; clear hx TK3; intro w2 h2 g2; rw [over_all _ _ (by first | exact Nat.le_refl _ | exact Nat.le_of_eq (by rw [HLZ.out, HLV.out]))] at h2; have B2 := Lib.hid h2; have Z2 := Lib.hid (HZ1.out.grown g2 (by simp)); have G2 := Lib.hid (none_new HG1.out g2 (by simp)); have TK4 := Lib.hid True.intro; clear h2 g2)
    | (have hx := TK4; refine wpList_loadCg (off := 0) (p := ceC p) aggC (by first | rfl | go_simp) (.tmp 8) rfl B2.out (take_all HLV.out) (by rw [HLV.out]; omega) (by first | rfl | go_simp) ?_; clear hx TK4; have TK5 := Lib.hid True.intro)
    | (go_at_call 63; refine (isOver_any p HKY.out now _).mono ?_; rintro r w3 ⟨rfl, g3⟩; rw [HOV.out]; have B3 := Lib.hid (B2.out.kept g3); have Z3 := Lib.hid (Z2.out.kept g3); have G3 := Lib.hid (grown_trans' G2.out g3); clear g3)
    | (have hx := TK5; refine wpList_storeC (off := 0) (p := ceC zeroCe) aggC.hi rfl (.tmp 6) (.tmp 26) rfl (.agg (ceC zeroCe).toArray) rfl (cdC_one _ _ _) Z3.out HLZ.out (by rw [HLZ.out]; omega) (by first | rfl | go_simp) (by first | rfl | go_simp) ?_; clear hx TK5; intro w4 h4 g4; rw [over_all _ _ (Nat.le_refl _)] at h4; have C4 := Lib.hid h4; have G4 := Lib.hid (none_new G3.out g4 (Nat.le_refl _)); clear h4 g4))
    refine bodyPost_ret (results_C2 rfl _ aggC C4.out HLZ.out rfl rfl) rfl ⟨rfl, G4.out⟩
  · have HIN := Lib.hid hin
    clear h hn hin ho
    go_enter Tryd.func37, Tryd.ntmps37
    go_wp2_with (first
    | (have hx := TK0; refine wpList_allocC zeroC_run rfl rfl ?_; clear hx TK0; have TK1 := Lib.hid True.intro; have HZ := Lib.hid (CB.new w 74 (ceC zeroCe)); have HG0 := Lib.hid (grown_alloc w (.cells (ceC zeroCe).toArray 74) none); have S0 := Lib.hid (HKS.out.none HG0.out); have q0 := S0.out.1.at_ (i := 0) rfl)
    | (have hx := TK1; refine wpList_lookOut keyedS strV_inj rfl _ _ rfl Tryd.underlying118 zeroC_run S0.out.2.1 rfl n HOK.out rfl HIN.out ?_; clear hx TK1; have TK2 := Lib.hid True.intro)
    | (have hx := TK2; refine wpList_allocC zeroC_run rfl rfl ?_; clear hx TK2; have TK3 := Lib.hid True.intro; have HN1 := Lib.hid (CB.new1 w (.cells (ceC zeroCe).toArray 74) 74 (ceC zeroCe)); have HZ1 := Lib.hid (HZ.out.alloc (.cells (ceC zeroCe).toArray 74)); have HG1 := Lib.hid (grown_trans' HG0.out (grown_alloc _ (.cells (ceC zeroCe).toArray 74) none)); clear q0)
    | (have hx := TK3; refine wpList_storeC (off := 0) (p := ceC zeroCe) aggC.hi rfl (.tmp 8) (.tmp 17) rfl (.agg (ceC zeroCe).toArray) rfl (cdC_one _ _ _) HN1.out HLZ.out (by rw [HLZ.out]; omega) (by first | rfl | go_simp) (by first | rfl | go_simp) ?_; clear hx TK3; intro w2 h2 g2; rw [over_all _ _ (by first | exact Nat.le_refl _ | exact Nat.le_of_eq (by rw [HLZ.out, HLZ.out]))] at h2; have B2 := Lib.hid h2; have Z2 := Lib.hid (HZ1.out.grown g2 (by simp)); have G2 := Lib.hid (none_new HG1.out g2 (by simp)); have TK4 := Lib.hid True.intro; clear h2 g2)
    | (have hx := TK4; refine wpList_storeC (off := 0) (p := ceC zeroCe) aggC.hi rfl (.tmp 6) (.tmp 26) rfl (.agg (ceC zeroCe).toArray) rfl (cdC_one _ _ _) Z2.out HLZ.out (by rw [HLZ.out]; omega) (by first | rfl | go_simp) (by first | rfl | go_simp) ?_; clear hx TK4; intro w4 h4 g4; rw [over_all _ _ (Nat.le_refl _)] at h4; have C4 := Lib.hid h4; have G4 := Lib.hid (none_new G2.out g4 (Nat.le_refl _)); clear h4 g4))
    refine bodyPost_ret (results_C2 rfl _ aggC C4.out HLZ.out rfl rfl) rfl ⟨rfl, G4.out⟩
end Go.Proofs.YtejmbabeniekhaaDoor
namespace Go.Proofs.YtejmbabeniekhaaDoor
open Go.RowKit Go.Maps Go.WideMaps

theorem WrN.stepC {B0 n : Nat} {t : TypeId} {x y w : World} (h : WrN B0 t n x y) (hG : w.grownBy x none ∧ B0 ≤ x.heap.size) (hw : w.heap.size ≤ B0) : w.grownBy y none ∧ B0 ≤ y.heap.size := by
  obtain ⟨h3, h4⟩ := hG
  rcases h with h | ⟨g, hg, h, -⟩
  · exact ⟨grown_trans' h3 h, Nat.le_trans h4 h.size⟩
  · exact ⟨none_new h3 h (by omega), Nat.le_trans h4 h.size⟩
theorem none_mapC {a b c : World} {g : Nat} (h : a.grownBy b (some g)) (k : b.grownBy c none) : a.grownBy c (some g) := grown_trans' h (grown_some k g)
/-- Each ticket's bytes lie below B. -/
def BelowB (B : Nat) (M : Cm) : Prop := ∀ p ∈ M, ∀ a, p.2.2.1 = some a → p.2.1.tk = [] ∨ a.block < B
theorem CmOk.belowB {w : World} {b : Nat} {M : Cm} (h : CmOk w b M) : BelowB w.heap.size M := by
  intro p hp a ha
  obtain ⟨h1, h2, h3⟩ := (h p hp).2.2.1
  by_cases hl : p.2.1.tk = []
  · exact .inl hl
  · rcases h3 with ⟨e, _⟩ | ⟨a', hA, hc⟩
    · rw [e] at ha; cases ha
    · rw [hA] at ha
      injection ha with ha
      subst ha
      obtain ⟨u, l, hul⟩ := List.exists_cons_of_ne_nil hl
      exact .inr (hc 0 u (by rw [hul]; rfl)).1
theorem BelowB.sub {B : Nat} {M M' : Cm} (h : BelowB B M) (hs : ∀ p ∈ M', p ∈ M) : BelowB B M' := fun p hp => h p (hs p hp)
/-- A block that isn't the map's, nor a ticket's, is written. -/
theorem KS.farC {w w' : World} {c b g : Nat} {M : Cm} (h : KS w c b M) (hg : w.grownBy w' (some g)) (h1 : g ≠ c) (h2 : g ≠ b) {B : Nat} (hB : BelowB B M) (h3 : B ≤ g) : KS w' c b M :=
  ⟨h.1.grown hg (fun e => h1 e.symm), h.2.1.kept hg (fun e => h2 (by injection e with e; exact e.symm)), h.2.2.1, fun p hp => ⟨(h.2.2.2 p hp).1, (h.2.2.2 p hp).2.1,
    ⟨(h.2.2.2 p hp).2.2.1.apartC hg (fun a ha => (hB p hp a ha).imp id (fun hlt e => by injection e with e; omega)), (h.2.2.2 p hp).2.2.2⟩⟩⟩
theorem live_sub {M : Cm} {now : Int} : ∀ p ∈ liveM M now, p ∈ M := fun _ hp => (List.mem_filter.1 hp).1

def CacF (x : Cd) (V : Ce) (c b g0 B0 : Nat) (B : Bool) : Nat → Value → World → Prop
  | 0, v, _ => v = .pointer (some ⟨c, 0, none⟩)
  | 1, v, _ => v = .pointer (some ⟨c, 0, none⟩)
  | 2, v, _ => v = .pointer (some ⟨c, 0, none⟩)
  | 3, v, _ => v = .map (some b)
  | 4, v, _ => v = .pointer (some ⟨g0, 2, none⟩)
  | 5, v, _ => v = .pointer (some ⟨g0, 2, none⟩)
  | 6, v, _ => v = .string ⟨x.sv.toArray⟩
  | 7, v, _ => v = .tuple #[ceV V, .bool B]
  | 8, v, _ => v = .tuple #[ceV V, .bool B]
  | 9, v, _ => v = ceV V
  | 10, v, _ => v = .bool B
  | 11, v, y => ∃ g, v = .pointer (some ⟨g, 0, none⟩) ∧ B0 ≤ g ∧ ∃ cs, CB y g 74 cs ∧ cs.length = 23
  | 12, _, _ => True
  | 13, v, _ => v = .bool B
  | _, _, _ => True
theorem CacF.kept {x : Cd} {V : Ce} {c b g0 B0 : Nat} {B : Bool} : ∀ (j : Nat) (v : Value) (y z : World), WrN B0 74 23 y z → CacF x V c b g0 B0 B j v y → CacF x V c b g0 B0 B j v z
  | 0, _, _, _, _, h => h
  | 1, _, _, _, _, h => h
  | 2, _, _, _, _, h => h
  | 3, _, _, _, _, h => h
  | 4, _, _, _, _, h => h
  | 5, _, _, _, _, h => h
  | 6, _, _, _, _, h => h
  | 7, _, _, _, _, h => h
  | 8, _, _, _, _, h => h
  | 9, _, _, _, _, h => h
  | 10, _, _, _, _, h => h
  | 11, _, _, _, hg, ⟨g, h1, h2, cs, h3, h4⟩ => ⟨g, h1, h2, hg.block h3 h4⟩
  | 12, _, _, _, _, h => h
  | 13, _, _, _, _, h => h
  | _ + 14, _, _, _, _, _ => by simp [CacF]

/-- What Put makes of a memory of tickets. -/
def PutC (M : Cm) (x : Cd) (now : Int) (M' : Cm) (n : Int) : Prop :=
  if rightC x = false then M' = M ∧ n = 1 else if x.en < now then M' = M ∧ n = 63 else if x.sv ∉ keysM (liveM M now) ∧ 8 ≤ (liveM M now).length then M' = liveM M now ∧ n = 2 else ∃ A' c', M' = withoutM (liveM M now) x.sv ++ [(x.sv, (x, A', c'))] ∧ n = 0
/-- What is new in a memory lies in new memory. -/
def NewB (B : Nat) (M M' : Cm) : Prop := ∀ q ∈ M', q ∈ M ∨ ∀ a, q.2.2.1 = some a → B ≤ a.block
def PutR2 (w : World) (c b : Nat) (M : Cm) (x : Cd) (now : Int) (e : Ending) (w' : World) : Prop := ∃ M' n, e = .returned (.int .i64 n) ∧ PutC M x now M' n ∧ KS w' c b M' ∧ w.grownBy w' (some b) ∧ NewB w.heap.size M M'
def PutRC (w : World) (c b : Nat) (M : Cm) (x : Cd) (now : Int) (e : Ending) (w' : World) : Prop := ∃ M' n, e = .returned (.int .i64 n) ∧ PutC M x now M' n ∧ KS w' c b M' ∧ w.grownBy w' (some b)

set_option maxRecDepth 10000 in
set_option maxHeartbeats 2000000 in
theorem cput_early (x : Cd) (A : Option Addr) (c0 : Nat) (h : cdOk x) (w : World) (hM : ML w) (c b : Nat) (M : Cm) (hS : KS w c b M) (now : Int) (hr : rightC x = false ∨ x.en < now) :
    Calls Tryd.prog 35 #[.pointer (some ⟨c, 0, none⟩), .agg (cdC x A c0).toArray, .int .i64 now] w (PutR2 w c b M x now) := by
  have HO := Lib.hid h
  have HLC := Lib.hid (cdC_length h.w.lk A c0)
  have HL2 := Lib.hid (fun A' c' => (cdC_length h.w.lk A' c' : (cdC x A' c').length = 23))
  have HLZ := Lib.hid zeroCe_length
  have HOK := Lib.hid (okS x.sv (by have := h.ls; omega))
  have HLB := Lib.hid hS.lt
  have HM2 := Lib.hid (show ML ((w.alloc (.cells (cdC x A c0).toArray 74)).alloc (.cells #[.int .i64 now] 2)) from hM.below (((Below.refl _ _).alloc (Nat.le_refl _) _).trans ((Below.refl _ _).alloc (by rw [World.size_alloc]; omega) _)))
  have HG := Lib.hid (grown_trans' (grown_alloc w (.cells (cdC x A c0).toArray 74) none) (grown_alloc _ (.cells #[.int .i64 now] 2) none))
  have HB := Lib.hid ((CB.new w 74 (cdC x A c0)).alloc (.cells #[.int .i64 now] 2))
  have HN := Lib.hid (CB.new1 w (.cells (cdC x A c0).toArray 74) 2 [.int .i64 now])
  have HS := Lib.hid (hS.none HG.out)
  have HSZ := Lib.hid (show w.heap.size + 2 ≤ ((w.alloc (.cells (cdC x A c0).toArray 74)).alloc (.cells #[.int .i64 now] 2)).heap.size by rw [World.size_alloc, World.size_alloc]; omega)
  have TK0 := Lib.hid True.intro
  cases hr1 : rightC x with
  | false =>
    have HR := Lib.hid hr1
    have HP := Lib.hid (show PutC M x now M 1 by unfold PutC; rw [if_pos hr1]; exact ⟨rfl, rfl⟩)
    clear h hM hS hr hr1
    go_enter Tryd.func35, Tryd.ntmps35
    go_wp2_with (first
    | (have hx := TK0; refine wpList_loadC (off := 0) (p := cdC x A c0) aggC rfl (.tmp 4) rfl HB.out (take_all HLC.out) (by rw [HLC.out]; omega) (by first | rfl | go_simp) ?_; clear hx TK0; have TK1 := Lib.hid True.intro)
    | (have hx := TK1; go_at_call 62; refine (cisRight_any (x, A, c0) HO.out _ HM2.out).mono ?_; rintro r w1 ⟨rfl, g1⟩; rw [HR.out]; have S1 := Lib.hid (HS.out.none g1); have B1 := Lib.hid (HB.out.kept g1); have N1 := Lib.hid (HN.out.kept g1); have GN1 := Lib.hid (grown_trans' HG.out g1); have G1 := Lib.hid (grown_some GN1.out b); have SZ1 := Lib.hid (Nat.le_trans HSZ.out g1.size); have q1 := N1.out.at_ (i := 0) rfl; clear g1 hx TK1; have TK2 := Lib.hid True.intro))
    go_ret
    exact ⟨M, 1, rfl, HP.out, S1.out, G1.out, fun q hq => .inl hq⟩
  | true =>
    have hov : x.en < now := hr.resolve_left (by rw [hr1]; simp)
    have HR := Lib.hid hr1
    have HOV := Lib.hid (decide_eq_true hov)
    have HP := Lib.hid (show PutC M x now M 63 by unfold PutC; rw [if_neg (by rw [hr1]; simp), if_pos hov]; exact ⟨rfl, rfl⟩)
    clear h hM hS hr hr1 hov
    go_enter Tryd.func35, Tryd.ntmps35
    go_wp2_with (first
    | (have hx := TK0; refine wpList_loadC (off := 0) (p := cdC x A c0) aggC rfl (.tmp 4) rfl HB.out (take_all HLC.out) (by rw [HLC.out]; omega) (by first | rfl | go_simp) ?_; clear hx TK0; have TK1 := Lib.hid True.intro)
    | (have hx := TK1; go_at_call 62; refine (cisRight_any (x, A, c0) HO.out _ HM2.out).mono ?_; rintro r w1 ⟨rfl, g1⟩; rw [HR.out]; have S1 := Lib.hid (HS.out.none g1); have B1 := Lib.hid (HB.out.kept g1); have N1 := Lib.hid (HN.out.kept g1); have GN1 := Lib.hid (grown_trans' HG.out g1); have G1 := Lib.hid (grown_some GN1.out b); have SZ1 := Lib.hid (Nat.le_trans HSZ.out g1.size); have q1 := N1.out.at_ (i := 0) rfl; clear g1 hx TK1; have TK2 := Lib.hid True.intro)
    | (have hx := TK2; refine wpList_loadC (off := 0) (p := cdC x A c0) aggC rfl (.tmp 4) rfl B1.out (take_all HLC.out) (by rw [HLC.out]; omega) (by first | rfl | go_simp) ?_; clear hx TK2)
    | (go_at_call 63; refine (isOver_any (x, A, c0) HO.out.w.lk now _).mono ?_; rintro r wo ⟨rfl, go⟩; rw [HOV.out]; have SO := Lib.hid (S1.out.none go); have BO := Lib.hid (B1.out.kept go); have NO := Lib.hid (N1.out.kept go); have GN := Lib.hid (grown_trans' GN1.out go); have GO := Lib.hid (grown_some GN.out b); have SZO := Lib.hid (Nat.le_trans SZ1.out go.size); have q0 := SO.out.1.at_ (i := 0) rfl; clear go q1))
    go_ret
    exact ⟨M, 63, rfl, HP.out, SO.out, GO.out, fun q hq => .inl hq⟩

set_option maxRecDepth 10000 in
set_option maxHeartbeats 4000000 in
theorem cput_late (x : Cd) (A : Option Addr) (c0 : Nat) (h : cdOk x) (w : World) (hM : ML w) (hT : RB w w.heap.size A x.tk c0) (c b : Nat) (hTb : ∀ a, A = some a → x.tk = [] ∨ a.block ≠ b) (M : Cm) (hS : KS w c b M) (hlen : M.length ≤ 1000000) (now : Int) (hr1 : rightC x = true) (hov : ¬ x.en < now) :
    Calls Tryd.prog 35 #[.pointer (some ⟨c, 0, none⟩), .agg (cdC x A c0).toArray, .int .i64 now] w (PutR2 w c b M x now) := by
  have HO := Lib.hid h
  have HLC := Lib.hid (cdC_length h.w.lk A c0)
  have HL2 := Lib.hid (fun A' c' => (cdC_length h.w.lk A' c' : (cdC x A' c').length = 23))
  have HLZ := Lib.hid zeroCe_length
  have HOK := Lib.hid (okS x.sv (by have := h.ls; omega))
  have HLB := Lib.hid hS.lt
  have HM2 := Lib.hid (show ML ((w.alloc (.cells (cdC x A c0).toArray 74)).alloc (.cells #[.int .i64 now] 2)) from hM.below (((Below.refl _ _).alloc (Nat.le_refl _) _).trans ((Below.refl _ _).alloc (by rw [World.size_alloc]; omega) _)))
  have HG := Lib.hid (grown_trans' (grown_alloc w (.cells (cdC x A c0).toArray 74) none) (grown_alloc _ (.cells #[.int .i64 now] 2) none))
  have HB := Lib.hid ((CB.new w 74 (cdC x A c0)).alloc (.cells #[.int .i64 now] 2))
  have HN := Lib.hid (CB.new1 w (.cells (cdC x A c0).toArray 74) 2 [.int .i64 now])
  have HS := Lib.hid (hS.none HG.out)
  have HSZ := Lib.hid (show w.heap.size + 2 ≤ ((w.alloc (.cells (cdC x A c0).toArray 74)).alloc (.cells #[.int .i64 now] 2)).heap.size by rw [World.size_alloc, World.size_alloc]; omega)
  have TK0 := Lib.hid True.intro
  have HR := Lib.hid hr1
  have HOV := Lib.hid (decide_eq_false hov)
  have HP := Lib.hid (show ∀ M' n, (if x.sv ∉ keysM (liveM M now) ∧ 8 ≤ (liveM M now).length then M' = liveM M now ∧ n = 2 else ∃ A' c', M' = withoutM (liveM M now) x.sv ++ [(x.sv, (x, A', c'))] ∧ n = 0) → PutC M x now M' n from fun M' n h => by unfold PutC; rw [if_neg (by rw [hr1]; simp), if_neg hov]; exact h)
  obtain ⟨M1, hM1⟩ : ∃ M1, M1 = liveM M now := ⟨_, rfl⟩
  rw [← hM1] at HP
  have HM1E := Lib.hid hM1
  have HLN := Lib.hid (show M1.length ≤ 1000000 by rw [hM1]; exact Nat.le_trans (List.length_filter_le _ _) hlen)
  have HBW := Lib.hid (show BelowB w.heap.size M1 by rw [hM1]; exact hS.2.2.2.belowB.sub live_sub)
  have HKY := Lib.hid (show ∀ p ∈ M, p.2.1.ky.length = 16 from fun p hp => (hS.2.2.2 p hp).2.1.w.lk)
  have HT0 := Lib.hid hT
  have HTB := Lib.hid hTb
  clear h hM hT hTb hS hr1 hov hM1 hlen
  go_enter Tryd.func35, Tryd.ntmps35
  go_wp2_with (first
    | (have hx := TK0; refine wpList_loadC (off := 0) (p := cdC x A c0) aggC rfl (.tmp 4) rfl HB.out (take_all HLC.out) (by rw [HLC.out]; omega) (by first | rfl | go_simp) ?_; clear hx TK0; have TK1 := Lib.hid True.intro)
    | (have hx := TK1; go_at_call 62; refine (cisRight_any (x, A, c0) HO.out _ HM2.out).mono ?_; rintro r w1 ⟨rfl, g1⟩; rw [HR.out]; have S1 := Lib.hid (HS.out.none g1); have B1 := Lib.hid (HB.out.kept g1); have N1 := Lib.hid (HN.out.kept g1); have GN1 := Lib.hid (grown_trans' HG.out g1); have G1 := Lib.hid (grown_some GN1.out b); have SZ1 := Lib.hid (Nat.le_trans HSZ.out g1.size); have q1 := N1.out.at_ (i := 0) rfl; clear g1 hx TK1; have TK2 := Lib.hid True.intro)
    | (have hx := TK2; refine wpList_loadC (off := 0) (p := cdC x A c0) aggC rfl (.tmp 4) rfl B1.out (take_all HLC.out) (by rw [HLC.out]; omega) (by first | rfl | go_simp) ?_; clear hx TK2)
    | (go_at_call 63; refine (isOver_any (x, A, c0) HO.out.w.lk now _).mono ?_; rintro r wo ⟨rfl, go⟩; rw [HOV.out]; have SO := Lib.hid (S1.out.none go); have BO := Lib.hid (B1.out.kept go); have NO := Lib.hid (N1.out.kept go); have GN := Lib.hid (grown_trans' GN1.out go); have GO := Lib.hid (grown_some GN.out b); have SZO := Lib.hid (Nat.le_trans SZ1.out go.size); have q0 := SO.out.1.at_ (i := 0) rfl; clear go q1)
    | (go_at_call 64; refine (delC_any b (w.heap.size + 1) M now _ SO.out.2.1 HKY.out (NO.out.at_ rfl) (by have := HLB.out; omega)).mono ?_; rintro r w1 ⟨rfl, hm1, g1⟩; rw [← HM1E.out] at hm1
       have HS1 := Lib.hid (SO.out.map hm1 g1 (by rw [HM1E.out]; exact live_sub)); have G1 := Lib.hid (grown_trans' GO.out g1); have HB1 := Lib.hid (BO.out.grown g1 (by have := HLB.out; omega)); have HSZ1 := Lib.hid (show w.heap.size + 2 ≤ w1.heap.size from Nat.le_trans SZO.out g1.size)
       have HT1 := Lib.hid (TBk.map (p := (x, A, c0)) ⟨((HT0.out.kept GN.out (Nat.le_refl _)).more GN.out.size), HTB.out⟩ g1)
       clear hm1 g1 q0))
  obtain ⟨V, B, hV, hBk⟩ : ∃ (V : Ce) (B : Bool), ((∀ u, (x.sv, u) ∈ M1 → ceV V = ceV u ∧ B = true) ∧ (x.sv ∉ keysM M1 → ceV V = .agg (ceC zeroCe).toArray ∧ B = false) ∧ V.1.ky.length = 16) ∧ (B = true ↔ x.sv ∈ keysM M1) := by
    by_cases hin : x.sv ∈ keysM M1
    · obtain ⟨v, hv⟩ := mem_keysM.1 hin
      exact ⟨v, true, ⟨fun u hu => ⟨by have := uniqM HS1.out.2.1.1.1 hu hv rfl; injection this with _ this; rw [this], rfl⟩, fun h2 => absurd hin h2, (HS1.out.2.2.2 _ hv).2.1.w.lk⟩, fun _ => hin, fun _ => rfl⟩
    · exact ⟨zeroCe, false, ⟨fun u hu => absurd (mem_keysM.2 ⟨u, hu⟩) hin, fun _ => ⟨rfl, rfl⟩, zeros_length 16⟩, (fun h2 => by cases h2), fun h2 => absurd h2 hin⟩
  have HV1 := Lib.hid hV.1
  have HV2 := Lib.hid hV.2.1
  have HLV := Lib.hid (show (ceC V).length = 23 from cdC_length hV.2.2 _ _)
  have HW0 := Lib.hid (show w1.heap.size ≤ w1.drew.heap.size from Nat.le_refl _)
  have HGB := Lib.hid (show w.heap.size ≠ c ∧ w.heap.size ≠ b by have := HLB.out; omega)
  have HGL := Lib.hid (Nat.le_refl w.heap.size)
  generalize hg0 : w.heap.size = g0 at *
  have HG0 := Lib.hid hg0
  generalize hB0 : w1.heap.size = B0 at *
  have HWB := Lib.hid hB0
  clear hg0 hB0 hV
  refine region_wr (n := 14) (ds := [some 24, some 25, some 26, some 27, some 28, some 29, some 30, some 31, some 23, some 32, some 33, some 7, none, some 8]) (WrN B0 74 23) (fun y => w1.grownBy y none ∧ B0 ≤ y.heap.size) (CacF x V c b g0 B0 B) (by kernel_rfl) (by kernel_rfl) rfl (by kernel_rfl) (fun y z hg h => hg.stepC h (Nat.le_of_eq HWB.out)) (fun j v y z hg _ h => CacF.kept j v y z hg h) ⟨grown_drew (World.grownBy.refl w1 none), HW0.out⟩ ⟨⟨⟨⟨⟨⟨⟨⟨⟨⟨⟨⟨⟨⟨trivial, ?_⟩, ?_⟩, ?_⟩, ?_⟩, ?_⟩, ?_⟩, ?_⟩, ?_⟩, ?_⟩, ?_⟩, ?_⟩, ?_⟩, ?_⟩, ?_⟩ ?_
  · refine Inv.duty_plain rfl rfl (fun L vs a y hG dep up val ev out K hK => ?_)
    obtain ⟨hW, hZ⟩ := hG
    have e0 : a.eval (.tmp 0) = .pointer (some ⟨c, 0, none⟩) := (out 0 (by kernel_rfl)).trans rfl
    refine Inv.wp_value (v := .pointer (some ⟨c, 0, none⟩)) ?_ (hK.out _ _ (WrN.refl y) rfl)
    clear hK K dep up val ev out
    generalize a.eval = ρ at *
    (simp [execOp, go_sem, *]; done)
  · refine Inv.duty_plain rfl rfl (fun L vs a y hG dep up val ev out K hK => ?_)
    obtain ⟨hW, hZ⟩ := hG
    have L24 := dep 0 (by kernel_rfl)
    have e24 : a.eval (.tmp 24) = .pointer (some ⟨c, 0, none⟩) := (ev 0 24 L24 (by kernel_rfl)).trans (val 0 L24)
    refine Inv.wp_value (v := .pointer (some ⟨c, 0, none⟩)) ?_ (hK.out _ _ (WrN.refl y) rfl)
    clear hK K dep up val ev out
    generalize a.eval = ρ at *
    (simp [execOp, go_sem, *]; done)
  · refine Inv.duty_plain rfl rfl (fun L vs a y hG dep up val ev out K hK => ?_)
    obtain ⟨hW, hZ⟩ := hG
    have L25 := dep 1 (by kernel_rfl)
    have e25 : a.eval (.tmp 25) = .pointer (some ⟨c, 0, none⟩) := (ev 1 25 L25 (by kernel_rfl)).trans (val 1 L25)
    refine Inv.wp_value (v := .pointer (some ⟨c, 0, none⟩)) ?_ (hK.out _ _ (WrN.refl y) rfl)
    clear hK K dep up val ev out
    generalize a.eval = ρ at *
    (simp [execOp, go_sem, *]; done)
  · refine Inv.duty_plain rfl rfl (fun L vs a y hG dep up val ev out K hK => ?_)
    obtain ⟨hW, hZ⟩ := hG
    have L26 := dep 2 (by kernel_rfl)
    have e26 : a.eval (.tmp 26) = .pointer (some ⟨c, 0, none⟩) := (ev 2 26 L26 (by kernel_rfl)).trans (val 2 L26)
    have q0 : y.cell? ⟨c, 0, none⟩ = some (.map (some b)) := (HS1.out.none hW).1.at_ rfl
    refine Inv.wp_value (v := .map (some b)) ?_ (hK.out _ _ (WrN.refl y) rfl)
    clear hK K dep up val ev out hW hZ
    generalize a.eval = ρ at *
    (simp [execOp, go_sem, *]; done)
  · refine Inv.duty_plain rfl rfl (fun L vs a y hG dep up val ev out K hK => ?_)
    obtain ⟨hW, hZ⟩ := hG
    have e4 : a.eval (.tmp 4) = .pointer (some ⟨g0, 0, none⟩) := (out 4 (by kernel_rfl)).trans rfl
    refine Inv.wp_value (v := .pointer (some ⟨g0, 2, none⟩)) ?_ (hK.out _ _ (WrN.refl y) rfl)
    clear hK K dep up val ev out
    generalize a.eval = ρ at *
    (simp [execOp, go_sem, *]; done)
  · refine Inv.duty_plain rfl rfl (fun L vs a y hG dep up val ev out K hK => ?_)
    obtain ⟨hW, hZ⟩ := hG
    have L28 := dep 4 (by kernel_rfl)
    have e28 : a.eval (.tmp 28) = .pointer (some ⟨g0, 2, none⟩) := (ev 4 28 L28 (by kernel_rfl)).trans (val 4 L28)
    refine Inv.wp_value (v := .pointer (some ⟨g0, 2, none⟩)) ?_ (hK.out _ _ (WrN.refl y) rfl)
    clear hK K dep up val ev out
    generalize a.eval = ρ at *
    (simp [execOp, go_sem, *]; done)
  · refine Inv.duty_plain rfl rfl (fun L vs a y hG dep up val ev out K hK => ?_)
    obtain ⟨hW, hZ⟩ := hG
    have L29 := dep 5 (by kernel_rfl)
    have e29 : a.eval (.tmp 29) = .pointer (some ⟨g0, 2, none⟩) := (ev 5 29 L29 (by kernel_rfl)).trans (val 5 L29)
    have q0 : y.cell? ⟨g0, 2, none⟩ = some (.string ⟨x.sv.toArray⟩) := (HB1.out.kept hW).at_ (cdC_sv x A c0)
    refine Inv.wp_value (v := .string ⟨x.sv.toArray⟩) ?_ (hK.out _ _ (WrN.refl y) rfl)
    clear hK K dep up val ev out hW hZ
    generalize a.eval = ρ at *
    (simp [execOp, go_sem, *]; done)
  · refine Inv.duty_plain rfl rfl (fun L vs a y hG dep up val ev out K hK => ?_)
    obtain ⟨hW, hZ⟩ := hG
    have L27 := dep 3 (by kernel_rfl)
    have e27 : a.eval (.tmp 27) = .map (some b) := (ev 3 27 L27 (by kernel_rfl)).trans (val 3 L27)
    have L30 := dep 6 (by kernel_rfl)
    have e30 : a.eval (.tmp 30) = .string ⟨x.sv.toArray⟩ := (ev 6 30 L30 (by kernel_rfl)).trans (val 6 L30)
    exact wp_lookV keyedS strV_inj (.tmp 27) (.tmp 30) rfl Tryd.underlying118 zeroC_run (HS1.out.none hW).2.1 e27 x.sv HOK.out e30 (ceV V) B HV1.out HV2.out (hK.out _ _ (WrN.refl y) rfl)
  · refine Inv.duty_plain rfl rfl (fun L vs a y hG dep up val ev out K hK => ?_)
    obtain ⟨hW, hZ⟩ := hG
    have L31 := dep 7 (by kernel_rfl)
    have e31 : a.eval (.tmp 31) = .tuple #[ceV V, .bool B] := (ev 7 31 L31 (by kernel_rfl)).trans (val 7 L31)
    refine Inv.wp_value (v := .tuple #[ceV V, .bool B]) ?_ (hK.out _ _ (WrN.refl y) rfl)
    clear hK K dep up val ev out
    generalize a.eval = ρ at *
    (simp [execOp, go_sem, *]; done)
  · refine Inv.duty_plain rfl rfl (fun L vs a y hG dep up val ev out K hK => ?_)
    obtain ⟨hW, hZ⟩ := hG
    have L23 := dep 8 (by kernel_rfl)
    have e23 : a.eval (.tmp 23) = .tuple #[ceV V, .bool B] := (ev 8 23 L23 (by kernel_rfl)).trans (val 8 L23)
    refine Inv.wp_value (v := ceV V) ?_ (hK.out _ _ (WrN.refl y) rfl)
    clear hK K dep up val ev out
    generalize a.eval = ρ at *
    (simp [execOp, go_sem, *]; done)
  · refine Inv.duty_plain rfl rfl (fun L vs a y hG dep up val ev out K hK => ?_)
    obtain ⟨hW, hZ⟩ := hG
    have L23 := dep 8 (by kernel_rfl)
    have e23 : a.eval (.tmp 23) = .tuple #[ceV V, .bool B] := (ev 8 23 L23 (by kernel_rfl)).trans (val 8 L23)
    refine Inv.wp_value (v := .bool B) ?_ (hK.out _ _ (WrN.refl y) rfl)
    clear hK K dep up val ev out
    generalize a.eval = ρ at *
    (simp [execOp, go_sem, *]; done)
  · refine Inv.duty_plain rfl rfl (fun L vs a y hG dep up val ev out K hK => ?_)
    obtain ⟨hW, hZ⟩ := hG
    exact wp_allocC (cs := ceC zeroCe) zeroC_run rfl (hK.out _ _ (.inl (grown_alloc y _ _)) ⟨_, rfl, hZ, _, CB.new _ _ _, HLZ.out⟩)
  · refine Inv.duty_plain rfl rfl (fun L vs a y hG dep up val ev out K hK => ?_)
    obtain ⟨hW, hZ⟩ := hG
    have L7 := dep 11 (by kernel_rfl)
    have e7 := ev 11 7 L7 (by kernel_rfl)
    have f7 := val 11 L7
    have L32 := dep 9 (by kernel_rfl)
    have e32 : a.eval (.tmp 32) = ceV V := (ev 9 32 L32 (by kernel_rfl)).trans (val 9 L32)
    obtain ⟨g, hv5, hg5, cs5, hc5, hl5⟩ := f7
    exact wp_storeC (off := 0) (p := ceC V) aggC.hi rfl (.tmp 7) (.tmp 32) rfl (ceV V) rfl (cdC_one _ _ _) hc5 HLV.out (by rw [hl5]; omega) (e7.trans hv5) e32 (fun w' h2 g2 => hK.out _ _ (.inr ⟨g, hg5, g2, _, h2, by rw [over_len _ _ (by rw [HLV.out, hl5]; omega), hl5]⟩) trivial)
  · refine Inv.duty_plain rfl rfl (fun L vs a y hG dep up val ev out K hK => ?_)
    obtain ⟨hW, hZ⟩ := hG
    have L33 := dep 10 (by kernel_rfl)
    have e33 : a.eval (.tmp 33) = .bool B := (ev 10 33 L33 (by kernel_rfl)).trans (val 10 L33)
    refine Inv.wp_value (v := .bool B) ?_ (hK.out _ _ (WrN.refl y) rfl)
    clear hK K dep up val ev out
    generalize a.eval = ρ at *
    (simp [execOp, go_sem, *]; done)
  intro vs w' hG hv
  have hZ : vs 13 = .bool B := hv 13 (by omega)
  simp only [Inv.putAll, Act.put, List.setIfInBounds_toArray, List.set_cons_zero, List.set_cons_succ, Nat.zero_add, Nat.reduceAdd]
  rw [hZ]
  clear hv hZ
  have S2 := Lib.hid (HS1.out.none hG.1)
  have B2 := Lib.hid (HB1.out.kept hG.1)
  have G2 := Lib.hid (none_mapC G1.out hG.1)
  have T2 := Lib.hid (HT1.out.none hG.1)
  have SZ2 := Lib.hid (show g0 + 2 ≤ w'.heap.size by have h1 := hG.1.size; have h2 := HSZ1.out; have h3 := HWB.out; omega)
  have TK7 := Lib.hid True.intro
  clear hG
  have q0 : w'.cell? ⟨c, 0, none⟩ = some (.map (some b)) := S2.out.1.at_ rfl
  cases hb : B with
  | true =>
    have HP2 := Lib.hid (show ∀ A' c', PutC M x now (withoutM M1 x.sv ++ [(x.sv, (x, A', c'))]) 0 from fun A' c' => HP.out _ _ (by rw [if_neg (fun h => h.1 (hBk.1 hb))]; exact ⟨A', c', rfl, rfl⟩))
    clear hBk hb
    go_wp2_with (first
      | (have hx := TK7; refine wpList_loadC (off := 0) (p := cdC x A c0) aggC rfl (.tmp 4) rfl B2.out (take_all HLC.out) (by rw [HLC.out]; omega) (by first | rfl | go_simp) ?_; clear hx TK7)
      | (go_at_call 66; refine (capart_any x A c0 HO.out _ T2.out.1).mono ?_; rintro r w3 ⟨A', c', rfl, hr3, hl3, g3⟩; have S3 := Lib.hid (S2.out.none g3); have B3 := Lib.hid (B2.out.kept g3); have G3 := Lib.hid (grown_trans' G2.out (grown_some g3 b)); have R3 := Lib.hid hr3; have L3 := Lib.hid hl3; have TK8 := Lib.hid True.intro; clear hr3 hl3 g3)
      | (have hx := TK8; refine wpList_storeC (off := 0) (p := cdC x A' c') aggC.hi rfl (.tmp 4) (.tmp 45) rfl (.agg (cdC x A' c').toArray) rfl (cdC_one _ _ _) B3.out (HL2.out A' c') (by rw [HLC.out]; omega) (by first | rfl | go_simp) (by first | rfl | go_simp) ?_; clear hx TK8; intro w4 h4 g4; rw [over_all _ _ (Nat.le_of_eq (by rw [HLC.out, HL2.out]))] at h4; have B4 := Lib.hid h4; have S4 := Lib.hid (S3.out.farC g4 HGB.out.1 HGB.out.2 HBW.out (Nat.le_refl _)); have G4 := Lib.hid (grown_new G3.out g4 (Nat.le_of_eq HG0.out)); have R4 := Lib.hid (R3.out.apartC g4 (fun a ha => .inr (fun e => by have h1 := L3.out a ha; have h2 := SZ2.out; injection e with e; omega))); clear h4 g4))
    have q5 : w4.cell? ⟨c, 0, none⟩ = some (.map (some b)) := S4.out.1.at_ rfl
    have q6 : w4.cell? ⟨g0, 2, none⟩ = some (.string ⟨x.sv.toArray⟩) := B4.out.at_ (cdC_sv x A' c')
    have S5 := Lib.hid (show KS w4.drew c b M1 from S4.out)
    go_still_tail 8, (by kernel_rfl)
    refine wpStill_step (fun KK hK => ?_)
    refine still_loadC aggC (.tmp 4) rfl B4.out (take_all (HL2.out A' c')) (by rw [HL2.out]; omega) rfl (hK _ ?_)
    clear hK KK
    repeat still_step
    refine wpStill_nil ?_
    change wpList _ _ _ _ _ w4.drew
    go_wp2_with (refine wpList_putM keyedS strV_inj rfl _ _ _ rfl Tryd.underlying118 S5.out.2.1 (by have := HLN.out; unfold maxLen; omega) rfl x.sv (x, A', c') HOK.out rfl rfl ?_; intro w5 hM5 hT5)
    go_ret
    refine ⟨_, 0, rfl, HP2.out A' c', ⟨S5.out.1.grown hT5.grown S5.out.2.2.1, hM5, S5.out.2.2.1, fun p hp => ?_⟩, grown_trans' (grown_drew G4.out) hT5.grown, fun q hq => ?_⟩
    rotate_left
    · rcases List.mem_append.1 hq with hq | hq
      · exact .inl (live_sub q (by rw [← HM1E.out]; exact (List.mem_filter.1 hq).1))
      · rw [List.mem_singleton.1 hq]
        refine .inr (fun a ha => ?_)
        have h1 := L3.out a ha
        have h2 := SZ2.out
        have h3 := HG0.out
        omega
    rcases List.mem_append.1 hp with hp | hp
    · exact (S5.out.2.2.2.map hT5.grown (fun q hq => (List.mem_filter.1 hq).1)) p hp
    · rw [List.mem_singleton.1 hp]
      refine ⟨rfl, HO.out, TBk.map (w := w4.drew) ⟨R4.out, fun a ha => .inr (fun e => ?_)⟩ hT5.grown⟩
      have h1 := L3.out a ha
      have h2 := SZ2.out
      have h3 := HLB.out
      omega
  | false =>
    have hin : x.sv ∉ keysM M1 := fun h => by rw [hBk.2 h] at hb; cases hb
    by_cases h8 : 8 ≤ M1.length
    · have HP2 := Lib.hid (show PutC M x now M1 2 from HP.out _ _ (by rw [if_pos ⟨hin, h8⟩]; exact ⟨rfl, rfl⟩))
      have d1 : decide ((8 : Int) ≤ (M1.length : Int)) = true := decide_eq_true (by omega)
      clear hBk hb hin
      go_wp2_with (refine wpList_lenMg (by first | rfl | go_simp) _ rfl Tryd.underlying118 S2.out.2.1 rfl ?_)
      go_ret
      exact ⟨_, 2, rfl, HP2.out, S2.out, G2.out, fun q hq => .inl (live_sub q (by rw [← HM1E.out]; exact hq))⟩
    · have HP2 := Lib.hid (show ∀ A' c', PutC M x now (withoutM M1 x.sv ++ [(x.sv, (x, A', c'))]) 0 from fun A' c' => HP.out _ _ (by rw [if_neg (fun h => h8 h.2)]; exact ⟨A', c', rfl, rfl⟩))
      have d1 : decide ((8 : Int) ≤ (M1.length : Int)) = false := decide_eq_false (by omega)
      clear hBk hb hin
      go_wp2_with (first
        | (refine wpList_lenMg (by first | rfl | go_simp) _ rfl Tryd.underlying118 S2.out.2.1 rfl ?_)
        | (have hx := TK7; refine wpList_loadC (off := 0) (p := cdC x A c0) aggC rfl (.tmp 4) rfl B2.out (take_all HLC.out) (by rw [HLC.out]; omega) (by first | rfl | go_simp) ?_; clear hx TK7)
        | (go_at_call 66; refine (capart_any x A c0 HO.out _ T2.out.1).mono ?_; rintro r w3 ⟨A', c', rfl, hr3, hl3, g3⟩; have S3 := Lib.hid (S2.out.none g3); have B3 := Lib.hid (B2.out.kept g3); have G3 := Lib.hid (grown_trans' G2.out (grown_some g3 b)); have R3 := Lib.hid hr3; have L3 := Lib.hid hl3; have TK8 := Lib.hid True.intro; clear hr3 hl3 g3)
        | (have hx := TK8; refine wpList_storeC (off := 0) (p := cdC x A' c') aggC.hi rfl (.tmp 4) (.tmp 45) rfl (.agg (cdC x A' c').toArray) rfl (cdC_one _ _ _) B3.out (HL2.out A' c') (by rw [HLC.out]; omega) (by first | rfl | go_simp) (by first | rfl | go_simp) ?_; clear hx TK8; intro w4 h4 g4; rw [over_all _ _ (Nat.le_of_eq (by rw [HLC.out, HL2.out]))] at h4; have B4 := Lib.hid h4; have S4 := Lib.hid (S3.out.farC g4 HGB.out.1 HGB.out.2 HBW.out (Nat.le_refl _)); have G4 := Lib.hid (grown_new G3.out g4 (Nat.le_of_eq HG0.out)); have R4 := Lib.hid (R3.out.apartC g4 (fun a ha => .inr (fun e => by have h1 := L3.out a ha; have h2 := SZ2.out; injection e with e; omega))); clear h4 g4))
      have q5 : w4.cell? ⟨c, 0, none⟩ = some (.map (some b)) := S4.out.1.at_ rfl
      have q6 : w4.cell? ⟨g0, 2, none⟩ = some (.string ⟨x.sv.toArray⟩) := B4.out.at_ (cdC_sv x A' c')
      have S5 := Lib.hid (show KS w4.drew c b M1 from S4.out)
      go_still_tail 8, (by kernel_rfl)
      refine wpStill_step (fun KK hK => ?_)
      refine still_loadC aggC (.tmp 4) rfl B4.out (take_all (HL2.out A' c')) (by rw [HL2.out]; omega) rfl (hK _ ?_)
      clear hK KK
      repeat still_step
      refine wpStill_nil ?_
      change wpList _ _ _ _ _ w4.drew
      go_wp2_with (refine wpList_putM keyedS strV_inj rfl _ _ _ rfl Tryd.underlying118 S5.out.2.1 (by have := HLN.out; unfold maxLen; omega) rfl x.sv (x, A', c') HOK.out rfl rfl ?_; intro w5 hM5 hT5)
      go_ret
      refine ⟨_, 0, rfl, HP2.out A' c', ⟨S5.out.1.grown hT5.grown S5.out.2.2.1, hM5, S5.out.2.2.1, fun p hp => ?_⟩, grown_trans' (grown_drew G4.out) hT5.grown, fun q hq => ?_⟩
      rotate_left
      · rcases List.mem_append.1 hq with hq | hq
        · exact .inl (live_sub q (by rw [← HM1E.out]; exact (List.mem_filter.1 hq).1))
        · rw [List.mem_singleton.1 hq]
          refine .inr (fun a ha => ?_)
          have h1 := L3.out a ha
          have h2 := SZ2.out
          have h3 := HG0.out
          omega
      rcases List.mem_append.1 hp with hp | hp
      · exact (S5.out.2.2.2.map hT5.grown (fun q hq => (List.mem_filter.1 hq).1)) p hp
      · rw [List.mem_singleton.1 hp]
        refine ⟨rfl, HO.out, TBk.map (w := w4.drew) ⟨R4.out, fun a ha => .inr (fun e => ?_)⟩ hT5.grown⟩
        have h1 := L3.out a ha
        have h2 := SZ2.out
        have h3 := HLB.out
        omega

theorem cput_two (x : Cd) (A : Option Addr) (c0 : Nat) (h : cdOk x) (w : World) (hM : ML w) (hT : RB w w.heap.size A x.tk c0) (c b : Nat) (hTb : ∀ a, A = some a → x.tk = [] ∨ a.block ≠ b) (M : Cm) (hS : KS w c b M) (hlen : M.length ≤ 1000000) (now : Int) :
    Calls Tryd.prog 35 #[.pointer (some ⟨c, 0, none⟩), .agg (cdC x A c0).toArray, .int .i64 now] w (PutR2 w c b M x now) := by
  by_cases hr : rightC x = false ∨ x.en < now
  · exact cput_early x A c0 h w hM c b M hS now hr
  · have hr1 : rightC x = true := by
      cases h : rightC x with
      | true => rfl
      | false => exact absurd (Or.inl h) hr
    exact cput_late x A c0 h w hM hT c b hTb M hS hlen now hr1 (fun h => hr (Or.inr h))
theorem cput_any (x : Cd) (A : Option Addr) (c0 : Nat) (h : cdOk x) (w : World) (hM : ML w) (hT : RB w w.heap.size A x.tk c0) (c b : Nat) (hTb : ∀ a, A = some a → x.tk = [] ∨ a.block ≠ b) (M : Cm) (hS : KS w c b M) (hlen : M.length ≤ 1000000) (now : Int) :
    Calls Tryd.prog 35 #[.pointer (some ⟨c, 0, none⟩), .agg (cdC x A c0).toArray, .int .i64 now] w (PutRC w c b M x now) :=
  (cput_two x A c0 h w hM hT c b hTb M hS hlen now).mono fun _ _ ⟨M', n, h1, h2, h3, h4, _⟩ => ⟨M', n, h1, h2, h3, h4⟩
/-- A block that isn't the map's, nor a ticket's, is written. -/
theorem KS.farD {w w' : World} {c b g : Nat} {M : Cm} (h : KS w c b M) (hg : w.grownBy w' (some g)) (h1 : g ≠ c) (h2 : g ≠ b) (h3 : ∀ q ∈ M, ∀ a, q.2.2.1 = some a → g < a.block) : KS w' c b M :=
  ⟨h.1.grown hg (fun e => h1 e.symm), h.2.1.kept hg (fun e => h2 (by injection e with e; exact e.symm)), h.2.2.1, fun p hp => ⟨(h.2.2.2 p hp).1, (h.2.2.2 p hp).2.1,
    ⟨(h.2.2.2 p hp).2.2.1.apartC hg (fun a ha => .inr (fun e => by have := h3 p hp a ha; injection e with e; omega)), (h.2.2.2 p hp).2.2.2⟩⟩⟩
end Go.Proofs.YtejmbabeniekhaaDoor
namespace Go.Proofs.YtejmbabeniekhaaDoor
open Go.RowKit Go.Maps Go.WideMaps

theorem OwnS.base_C {w : World} {base base' : Nat} {e : TypeId} {v : Value} {ls : List ByteArray} (h : OwnS w base e v ls) (hb : base' ≤ base) : OwnS w base' e v ls :=
  ⟨h.1, h.2.imp id fun ⟨g, cap, cur, h1, h2, h3⟩ => ⟨g, cap, cur, h1, Nat.le_trans hb h2, h3⟩⟩

set_option maxRecDepth 10000 in
set_option maxHeartbeats 2000000 in
theorem servers_any (w : World) (c b : Nat) (M : Cm) (h : KS w c b M) (hlen : M.length ≤ 1000000) :
    Calls Tryd.prog 39 #[.pointer (some ⟨c, 0, none⟩)] w fun e w' => ∃ v ks, e = .returned v ∧ ListedM M ks ∧ OwnS w' w.heap.size 9 v (ks.map fun x => ⟨x.toArray⟩) ∧ w.grownBy w' none := by
  have q0 : w.cell? ⟨c, 0, none⟩ = some (.map (some b)) := h.1.at_ rfl
  have HS := Lib.hid h
  have HLN := Lib.hid hlen
  have HM := Lib.hid h.2.1.2
  have HFM := Lib.hid h.2.1.1
  have HG := Lib.hid (grown_alloc w (.cells #[.map (some b)] 118) none)
  have HD := Lib.hid (show Maps.size (datM Tryd.prog 9 strV ceV M) ≤ maxLen ∧ Maps.size (datM Tryd.prog 9 strV ceV M) * 16 ≤ 140737488355328 by rw [size_datM]; unfold maxLen; omega)
  clear h hlen
  go_enter Tryd.func39, Tryd.ntmps39
  go_wp2_with (first
    | (go_at_call 68; refine (callsIn_wide.1 (sh_maps_Keys_68 (some b) _)).mono ?_; rintro e w1 ⟨rfl, rfl⟩)
    | (go_at_call 59; refine (callsIn_wide.1 (sh_slices_Sorted_keys_59_68 b _ _ RV w HM.out HD.out.1 HD.out.2)).mono ?_; rintro e w1 ⟨v, ss, rfl, hss, hrow, -, hb⟩; have G1 := Lib.hid (grown_trans' HG.out (none_of_below hb (Nat.le_refl _)))
       obtain ⟨ks, hks, hl⟩ : ∃ ks : List (List UInt8), ks = ss.mergeSort (fun x y => decide (x ≤ y)) ∧ ss.length = ks.length := ⟨_, rfl, (List.Perm.length_eq (List.mergeSort_perm _ _)).symm⟩
       have HKS := Lib.hid (show ListedM M ks from ⟨by rw [hks]; exact (List.mergeSort_perm _ _).trans (hss.trans (strKeys_datM Tryd.underlying9 HFM.out)), by rw [hks]; exact sorted_merge ss⟩)
       rw [← hks] at hrow
       obtain ⟨A, cap, hv, hsr, -⟩ := (keys_row hl hrow).shape
       obtain ⟨n, hn⟩ : ∃ n, n = ks.length := ⟨_, rfl⟩
       rw [List.length_map, ← hn] at hv
       subst hv
       have HSR := Lib.hid hsr; have HN := Lib.hid hn
       have HNM := Lib.hid (show n ≤ 1000000 by rw [hn, HKS.out.1.length_eq]; unfold keysM; rw [List.length_map]; exact HLN.out)
       clear hss hrow hb hks hl hsr hn))
  have S1 := Lib.hid (HS.out.none G1.out)
  have HR1 := Lib.hid (OwnS.nil_ w1 w1.heap.size 9)
  clear q0
  go_loopw [3, 13] (fun vl i wr => ∃ k : Nat, k ≤ n ∧ i = .int .i64 k ∧ OwnS wr w1.heap.size 9 vl ((ks.take k).map fun x => ⟨x.toArray⟩) ∧ w1.grownBy wr none) (fun _ i _ => n - (intOf i).toNat)
  case atStart => exact ⟨0, Nat.zero_le _, rfl, by simpa using HR1.out, World.grownBy.refl w1 none⟩
  case round =>
    obtain ⟨k, hk, rfl, hRL, hW⟩ := hrel
    have HRL := Lib.hid hRL
    have HW := Lib.hid hW
    have hn0 := HNM.out
    by_cases hlt : k < n
    · obtain ⟨x, hx⟩ : ∃ x, x = ks[k]'(by rw [← HN.out]; exact hlt) := ⟨_, rfl⟩
      have hxm : x ∈ keysM M := HKS.out.1.mem_iff.1 (by rw [hx]; exact List.getElem_mem _)
      obtain ⟨p, hp⟩ := mem_keysM.1 hxm
      have HSZS := Lib.hid (show (⟨x.toArray⟩ : ByteArray).size ≤ 1000000 by
        have h1 := (S1.out.2.2.2 _ hp).1
        have h2 : p.1.sv.length ≤ 1000 := (S1.out.2.2.2 _ hp).2.1.ls
        show x.toArray.size ≤ _
        rw [List.size_toArray]
        have h3 : x = p.1.sv := h1
        rw [h3]
        omega)
      have HTK := Lib.hid (show ((ks.take (k + 1)).map fun x => (⟨x.toArray⟩ : ByteArray)) = ((ks.take k).map fun x => (⟨x.toArray⟩ : ByteArray)) ++ [⟨x.toArray⟩] by rw [List.take_succ_eq_append_getElem (by rw [← HN.out]; exact hlt), List.map_append, hx]; rfl)
      obtain ⟨ab, ao, hAe, hab, hcells⟩ := HSR.out.elem (k := k) (by rw [List.length_map, ← HN.out]; exact hlt)
      have hce : (ks.map fun x => [strV x])[k]'(by rw [List.length_map, ← HN.out]; exact hlt) = [strV x] := by rw [List.getElem_map, hx]
      rw [hce] at hcells
      have hc0 := ((below_of_none HW.out).cell (p := ⟨ab, ao + 1 * k + 0, none⟩) hab).trans (hcells 0 _ rfl)
      rw [Nat.one_mul, Nat.add_zero] at hc0
      have q1 : wr.cell? ⟨ab, ao + k, none⟩ = some (.string ⟨x.toArray⟩) := hc0
      have HLR := Lib.hid (show ((ks.take k).map fun x => (⟨x.toArray⟩ : ByteArray)).length ≤ 1000000 by rw [List.length_map, List.length_take]; omega)
      have HSZ := Lib.hid HW.out.size
      subst hAe
      clear hce hcells hc0 hx hxm hab hRL hW hp
      go_wp2_with (first
        | (go_at_call 69; refine (sclone_any _ _ HSZS.out).mono ?_; rintro r w3 ⟨rfl, hb3⟩; have G3' := Lib.hid (none_of_below hb3 (Nat.le_refl _)); have W3 := Lib.hid (grown_trans' HW.out G3'.out); have SZ3 := Lib.hid (Nat.le_trans HSZ.out G3'.out.size)
           have W4 := Lib.hid (grown_trans' W3.out (grown_alloc w3 (.cells #[.string ⟨x.toArray⟩] 9) none)); have RL4 := Lib.hid (HRL.out.kept_ (grown_trans' G3'.out (grown_alloc w3 (.cells #[.string ⟨x.toArray⟩] 9) none))); have C4 := Lib.hid (CB.new w3 9 [.string ⟨x.toArray⟩]); have TK4 := Lib.hid True.intro; clear hb3)
        | (have hx := TK4; refine wpList_appStr strT rfl (.tmp 17) (.tmp 20) rfl (ad := ⟨w3.heap.size, 0, none⟩) (c := 1) RL4.out (C4.out.at_ (i := 0) rfl) rfl rfl HLR.out (Nat.le_trans SZ3.out (by rw [World.size_alloc]; omega)) ?_; clear hx TK4
           intro v' w5 h5 g5 a5; have RL5 := Lib.hid h5; have W5 := Lib.hid (none_rowB W4.out g5 (fun g hg => (RL4.out.shape_lt g hg).1)); clear h5 g5 a5))
      go_roundw
      case rel => exact ⟨k + 1, by omega, by go_num, by rw [HTK.out]; exact RL5.out, W5.out⟩
      case measure => simp [intOf]; omega
    · have hkn : k = n := by omega
      have HRF := HRL.out
      rw [hkn, HN.out, List.take_length] at HRF
      have HR2 := Lib.hid HRF
      clear HRF hRL hW
      go_wp2
      go_ret
      exact ⟨_, ks, rfl, HKS.out, OwnS.base_C HR2.out G1.out.size, grown_trans' G1.out HW.out⟩
end Go.Proofs.YtejmbabeniekhaaDoor
namespace Go.Proofs.YtejmbabeniekhaaDoor
open Go.RowKit Go.Maps Go.WideMaps

/-- Tickets for a@R. -/
def cdM (j : Nat) (st en : Int) : Cd := ⟨nmB 0, [], nmB j, zeros 16, 0, st, en, 0⟩
theorem cdM_right {j : Nat} (hj : j < 26) {st en : Int} (h0 : 0 ≤ st) (h1 : st ≤ en) (h2 : en ≤ 1099511627776) : rightC (cdM j st en) = true := by
  unfold rightC gOk spanOk timeOk flagsOk
  rw [show parses (cdM j st en).cl = true from nmB_parses 0 (by omega), show parses (cdM j st en).sv = true from nmB_parses j hj]
  show (true && (true && (((decide (0 ≤ st) && decide (st ≤ 1099511627776)) && ((decide (0 ≤ en) && decide (en ≤ 1099511627776)) && decide (st ≤ en))) && (decide ((0 : Int) ≤ 0) && decide ((0 : Int) ≤ 3))))) = true
  rw [decide_eq_true h0, decide_eq_true h1, decide_eq_true h2, decide_eq_true (show st ≤ 1099511627776 by omega), decide_eq_true (show 0 ≤ en by omega)]
  rfl
theorem cdM_ok {j : Nat} {st en : Int} (h0 : I64c st) (h1 : I64c en) : cdOk (cdM j st en) :=
  ⟨by show 3 ≤ 1000; omega, by show 0 ≤ 100000; omega, by show 3 ≤ 1000; omega, ⟨zeros_length 16, by show 0 < 18446744073709551616; omega, h0, h1, by show I64c 0; unfold I64c; omega⟩⟩
def cellsM (j : Nat) (st en : Int) : Array Value := #[.string ⟨#[97, 64, 82]⟩, .slice none 0 0, .string ⟨(nmB j).toArray⟩, .int .u8 0, .int .u8 0, .int .u8 0, .int .u8 0, .int .u8 0, .int .u8 0, .int .u8 0, .int .u8 0, .int .u8 0, .int .u8 0, .int .u8 0, .int .u8 0, .int .u8 0, .int .u8 0, .int .u8 0, .int .u8 0, .int .u64 0, .int .i64 st, .int .i64 en, .int .i64 0]
theorem cellsM_eq (j : Nat) (st en : Int) : cellsM j st en = (cdC (cdM j st en) none 0).toArray := rfl
theorem cput_at (x : Cd) (A : Option Addr) (c0 : Nat) (h : cdOk x) (w w0 : World) (hM : ML w0) (hw : w0.grownBy w none) (hT : RB w w.heap.size A x.tk c0) (c b : Nat) (hTb : ∀ a, A = some a → x.tk = [] ∨ a.block ≠ b) (M : Cm) (hS : KS w c b M) (hlen : M.length ≤ 1000000) (now : Int) (C : Array Value) (hC : C = (cdC x A c0).toArray) :
    Calls Tryd.prog 35 #[.pointer (some ⟨c, 0, none⟩), .agg C, .int .i64 now] w (PutRC w c b M x now) := by
  subst hC
  exact cput_any x A c0 h w (hM.below (below_of_none hw)) hT c b hTb M hS hlen now
theorem PutC.room {M M' : Cm} {x : Cd} {now n : Int} (h : PutC M x now M' n) (hr : rightC x = true) (ho : ¬ x.en < now) (hin : x.sv ∉ keysM (liveM M now)) (h8 : (liveM M now).length < 8) : ∃ A' c', M' = liveM M now ++ [(x.sv, (x, A', c'))] ∧ n = 0 := by
  unfold PutC at h
  rw [if_neg (by rw [hr]; simp), if_neg ho, if_neg (fun h2 => by have := h2.2; omega)] at h
  obtain ⟨A', c', h1, h2⟩ := h
  refine ⟨A', c', ?_, h2⟩
  rw [h1]
  congr 1
  unfold withoutM
  refine List.filter_eq_self.2 fun q hq => decide_eq_true fun e => hin ?_
  rw [← e]
  exact List.mem_map.2 ⟨q, hq, rfl⟩
theorem PutC.full {M M' : Cm} {x : Cd} {now n : Int} (h : PutC M x now M' n) (hr : rightC x = true) (ho : ¬ x.en < now) (hin : x.sv ∉ keysM (liveM M now)) (h8 : 8 ≤ (liveM M now).length) : M' = liveM M now ∧ n = 2 := by
  unfold PutC at h
  rw [if_neg (by rw [hr]; simp), if_neg ho, if_pos ⟨hin, h8⟩] at h
  exact h

set_option maxRecDepth 10000 in
set_option maxHeartbeats 1000000 in
theorem cspeaks_any (w : World) (hM : ML w) : Calls Tryd.prog 30 #[] w fun e w' => e = .returned (.bool true) ∧ w.grownBy w' none := by
  have HO := Lib.hid (cdM_ok (j := 18) (st := 0) (en := 10) (by unfold I64c; omega) (by unfold I64c; omega))
  have HR := Lib.hid (cdM_right (j := 18) (st := 0) (en := 10) (by omega) (by omega) (by omega) (by omega))
  have HL2 := Lib.hid (fun A' c' => (cdC_length (x := cdM 18 0 10) (zeros_length 16) A' c' : (cdC (cdM 18 0 10) A' c').length = 23))
  have HLZ := Lib.hid zeroCe_length
  have HM := Lib.hid hM
  have TKa := Lib.hid True.intro
  clear hM
  go_enter Tryd.func30, Tryd.ntmps30
  go_wp2_with (first
    | (go_at_call 32; refine (cnew_any _).mono ?_; rintro x w1 ⟨rfl, h1, g1⟩; have H1 := Lib.hid h1; have G1 := Lib.hid g1; clear h1 g1)
    | (go_at_call 35; refine (cput_at (cdM 18 0 10) none 0 HO.out _ w HM.out G1.out (RB.nil_ _ _) _ w.heap.size (fun _ h => by cases h) [] H1.out (by simp) 0 _ (cellsM_eq 18 0 10)).mono ?_; rintro x w2 ⟨M', n, rfl, hp, h2, g2⟩
       obtain ⟨A', c', rfl, rfl⟩ := hp.room HR.out (by decide) (by simp [liveM, keysM]) (by simp [liveM])
       have H2 := Lib.hid (show KS w2 (w.heap.size + 1) w.heap.size [(nmB 18, ((cdM 18 0 10, A', c') : Ce))] from h2); have G2 := Lib.hid (none_new G1.out g2 (Nat.le_refl _)); clear h2 g2 hp)
    | (have hx := TKa; go_at_call 37; refine (cfind_in (nmB 18) (by show 3 ≤ 1000; omega) 10 _ _ _ _ H2.out (cdM 18 0 10, A', c') (List.mem_singleton.2 rfl) (show decide ((10 : Int) < 10) = false by decide)).mono ?_; rintro x w3 ⟨A3, c3, rfl, -, -, g3⟩; have H3 := Lib.hid (H2.out.none g3); have G3 := Lib.hid (grown_trans' G2.out g3); clear g3 hx TKa; have TK1 := Lib.hid True.intro)
    | (have hx := TK1; refine wpList_allocC zeroC_run rfl rfl ?_; clear hx TK1; have TK2 := Lib.hid True.intro)
    | (have hx := TK2; refine wpList_storeC (off := 0) (p := cdC (cdM 18 0 10) A3 c3) aggC.hi rfl (.tmp 3) (.tmp 17) rfl (.agg (cdC (cdM 18 0 10) A3 c3).toArray) rfl (cdC_one _ _ _) (CB.new w3 74 (ceC zeroCe)) (HL2.out _ _) (by rw [HLZ.out]; omega) (by first | rfl | go_simp) (by first | rfl | go_simp) ?_; clear hx TK2; intro w4 h4 g4; have G4' := Lib.hid (none_new (grown_alloc w3 (.cells (ceC zeroCe).toArray 74) none) g4 (Nat.le_refl _)); have H4 := Lib.hid (H3.out.none G4'.out); have G4 := Lib.hid (grown_trans' G3.out G4'.out); have TK3 := Lib.hid True.intro; clear h4 g4)
    | (have hx := TK3; go_at_call 37; refine (cfind_out (nmB 18) (by show 3 ≤ 1000; omega) 11 _ _ _ _ H4.out (fun p hp => by
         have hp2 : (nmB 18, p) ∈ [(nmB 18, ((cdM 18 0 10, A', c') : Ce))] := hp
         rw [List.mem_singleton] at hp2
         injection hp2 with _ hp2
         rw [hp2]; exact (show decide ((10 : Int) < 11) = true by decide))).mono ?_; rintro x w5 ⟨rfl, g5⟩; have H5 := Lib.hid (H4.out.none g5); have G5 := Lib.hid (grown_trans' G4.out g5); clear g5 hx TK3; have TK4 := Lib.hid True.intro)
    | (have hx := TK4; refine wpList_allocC zeroC_run rfl rfl ?_; clear hx TK4; have TK5 := Lib.hid True.intro)
    | (have hx := TK5; refine wpList_storeC (off := 0) (p := ceC zeroCe) aggC.hi rfl (.tmp 5) (.tmp 22) rfl (ceV zeroCe) rfl (cdC_one _ _ _) (CB.new w5 74 (ceC zeroCe)) HLZ.out (by rw [HLZ.out]; omega) (by first | rfl | go_simp) (by first | rfl | go_simp) ?_; clear hx TK5; intro w6 h6 g6; have G6' := Lib.hid (none_new (grown_alloc w5 (.cells (ceC zeroCe).toArray 74) none) g6 (Nat.le_refl _)); have H6 := Lib.hid (H5.out.none G6'.out); have G6 := Lib.hid (grown_trans' G5.out G6'.out); clear h6 g6)
    | (go_at_call 39; refine (servers_any _ _ _ _ H6.out (by simp)).mono ?_; rintro x w7 ⟨v, ks, rfl, hk, hv, g7⟩; obtain ⟨A5, c5, hv5, -⟩ := hv.shape; have hkl : ks.length = 1 := by (rw [hk.1.length_eq]; rfl)
       rw [List.length_map, hkl] at hv5; subst hv5; have G7 := Lib.hid (grown_trans' G6.out g7); clear g7 hv hk hkl))
  go_ret
  exact ⟨rfl, G7.out⟩
end Go.Proofs.YtejmbabeniekhaaDoor
namespace Go.Proofs.YtejmbabeniekhaaDoor
open Go.ChangeShapes Go.WideShapes Go.RowKit Go.Maps Go.WideMaps
set_option linter.unusedVariables false

section
variable {H : Type} {enc : TypeId × Value → H} {w : World} {base : Nat} {held : Bool}
theorem bytes_of_trodC {n : Nat} {cs : List Value} {x : DataW H × List MemPlace}
    (h : DataW.trod enc Tryd.prog w base (fun _ => true) held n 23 cs = some x) : ∃ (A : Option Addr) (l : List UInt8) (c : Nat), cs = [.slice A l.length c] ∧ RB w w.heap.size A l c := by
  rcases open_ints Tryd.underlying23 Tryd.underlying5 (by kernel_rfl) h with ⟨hcs, _⟩ | ⟨x, l, c, zs, hcs, _, hl, hm, hz, _, hcell, hwz⟩
  · exact ⟨none, [], 0, hcs, RB.nil_ _ _⟩
  · obtain ⟨m, hml, hr⟩ := RB.of_ints (w := w) (A := some x) (len := l) (cap := c) (zs := zs) (.inr ⟨x, rfl, hl, hm, by simpa using hz, hcell, hwz⟩)
    exact ⟨some x, m, c, by rw [hcs, hml], hr⟩
set_option maxRecDepth 10000 in
theorem grant_of_trodC {fuel : Nat} {cs : List Value} {x : DataW H × List MemPlace} (hlen : cs.length = 21) (hf0 : DataW.trod enc Tryd.prog w base (fun _ => true) held fuel 72 cs = some x) :
    ∃ (s : ByteArray) (k : List UInt8) (no st en fl : Int), cs = gcells s k no st en fl ∧ k.length = 16 ∧ (0 ≤ no ∧ no ≤ 18446744073709551615) ∧ I64c st ∧ I64c en ∧ I64c fl := by
  obtain ⟨xs, n, _, _, _, hxl, hf⟩ := DataW.trod_struct Tryd.underlying72 hf0
  have hCk : Tryd.prog.cellsOf 49 = 16 := by kernel_rfl
  have hC6 : Tryd.prog.cellsOf 2 = 1 := by kernel_rfl
  have hCu : Tryd.prog.cellsOf 22 = 1 := by kernel_rfl
  have hCs : Tryd.prog.cellsOf 9 = 1 := by kernel_rfl
  have hCi : Tryd.prog.cellsOf 3 = 1 := by kernel_rfl
  have hCb : Tryd.prog.cellsOf 23 = 1 := by kernel_rfl
  have hCg : Tryd.prog.cellsOf 72 = 21 := by kernel_rfl
  have hCc : Tryd.prog.cellsOf 74 = 23 := by kernel_rfl
  match xs, hxl with
  | [y0, y1, y2, y3, y4, y5], _ =>
    have h0 := hf 0 _ rfl
    change DataW.trod enc Tryd.prog w base (fun _ => true) held n 9 (List.take (Tryd.prog.cellsOf 9) (List.drop 0 cs)) = some y0 at h0
    rw [hCs] at h0
    obtain ⟨s, e0, _, _⟩ := DataW.trod_string Tryd.underlying9 h0
    have h1 := hf 1 _ rfl
    change DataW.trod enc Tryd.prog w base (fun _ => true) held n 49 (List.take (Tryd.prog.cellsOf 49) (List.drop 1 cs)) = some y1 at h1
    rw [hCk] at h1
    obtain ⟨k, e1, hk⟩ := arr_of_trodB Tryd.underlying49 Tryd.underlying5 (by kernel_rfl) (by rw [List.length_take, List.length_drop, hlen]; rfl) h1
    have h2 := hf 2 _ rfl
    change DataW.trod enc Tryd.prog w base (fun _ => true) held n 22 (List.take (Tryd.prog.cellsOf 22) (List.drop 17 cs)) = some y2 at h2
    rw [hCu] at h2
    obtain ⟨no, e2, _, w2⟩ := DataW.trod_int Tryd.underlying22 h2
    have h3 := hf 3 _ rfl
    change DataW.trod enc Tryd.prog w base (fun _ => true) held n 2 (List.take (Tryd.prog.cellsOf 2) (List.drop 18 cs)) = some y3 at h3
    rw [hC6] at h3
    obtain ⟨st, e3, _, w3⟩ := DataW.trod_int Tryd.underlying2 h3
    have h4 := hf 4 _ rfl
    change DataW.trod enc Tryd.prog w base (fun _ => true) held n 2 (List.take (Tryd.prog.cellsOf 2) (List.drop 19 cs)) = some y4 at h4
    rw [hC6] at h4
    obtain ⟨en, e4, _, w4⟩ := DataW.trod_int Tryd.underlying2 h4
    have h5 := hf 5 _ rfl
    change DataW.trod enc Tryd.prog w base (fun _ => true) held n 3 (List.take (Tryd.prog.cellsOf 3) (List.drop 20 cs)) = some y5 at h5
    rw [hCi] at h5
    obtain ⟨fl, e5, _, w5⟩ := DataW.trod_int Tryd.underlying3 h5
    refine ⟨s, k, no, st, en, fl, ?_, hk, bounds_u64 w2, wf64 w3, wf64 w4, wf64 w5⟩
    have hall : cs.drop 0 = gcells s k no st en fl := by
      rw [drop_stepB cs 0 1, e0, show 0 + 1 = 1 from rfl]
      rw [drop_stepB cs 1 16, e1, show 1 + 16 = 17 from rfl]
      rw [drop_stepB cs 17 1, e2, show 17 + 1 = 18 from rfl]
      rw [drop_stepB cs 18 1, e3, show 18 + 1 = 19 from rfl]
      rw [drop_stepB cs 19 1, e4, show 19 + 1 = 20 from rfl]
      rw [drop_stepB cs 20 1, e5, show 20 + 1 = 21 from rfl]
      rw [List.drop_eq_nil_of_le (by omega)]
      simp [gcells]
    rw [List.drop_zero] at hall
    exact hall
set_option maxRecDepth 10000 in
theorem cred_of_trod {fuel : Nat} {cs : List Value} {x : DataW H × List MemPlace} (hlen : cs.length = 23) (hf0 : DataW.trod enc Tryd.prog w base (fun _ => true) held fuel 74 cs = some x) : ∃ p : Ce, cs = ceC p ∧ cdW p.1 ∧ RB w w.heap.size p.2.1 p.1.tk p.2.2 := by
  obtain ⟨xs, n, _, _, _, hxl, hf⟩ := DataW.trod_struct Tryd.underlying74 hf0
  have hCk : Tryd.prog.cellsOf 49 = 16 := by kernel_rfl
  have hC6 : Tryd.prog.cellsOf 2 = 1 := by kernel_rfl
  have hCu : Tryd.prog.cellsOf 22 = 1 := by kernel_rfl
  have hCs : Tryd.prog.cellsOf 9 = 1 := by kernel_rfl
  have hCi : Tryd.prog.cellsOf 3 = 1 := by kernel_rfl
  have hCb : Tryd.prog.cellsOf 23 = 1 := by kernel_rfl
  have hCg : Tryd.prog.cellsOf 72 = 21 := by kernel_rfl
  have hCc : Tryd.prog.cellsOf 74 = 23 := by kernel_rfl
  match xs, hxl with
  | [y0, y1, y2], _ =>
    have h0 := hf 0 _ rfl
    change DataW.trod enc Tryd.prog w base (fun _ => true) held n 9 (List.take (Tryd.prog.cellsOf 9) (List.drop 0 cs)) = some y0 at h0
    rw [hCs] at h0
    obtain ⟨c, e0, _, _⟩ := DataW.trod_string Tryd.underlying9 h0
    have h1 := hf 1 _ rfl
    change DataW.trod enc Tryd.prog w base (fun _ => true) held n 23 (List.take (Tryd.prog.cellsOf 23) (List.drop 1 cs)) = some y1 at h1
    rw [hCb] at h1
    obtain ⟨A, t, cp, e1, hr⟩ := bytes_of_trodC h1
    have h2 := hf 2 _ rfl
    change DataW.trod enc Tryd.prog w base (fun _ => true) held n 72 (List.take (Tryd.prog.cellsOf 72) (List.drop 2 cs)) = some y2 at h2
    rw [hCg] at h2
    obtain ⟨s, k, no, st, en, fl, e2, hk, hno, hst, hen, hfl⟩ := grant_of_trodC (by rw [List.length_take, List.length_drop, hlen]; rfl) h2
    refine ⟨(⟨c.data.toList, t, s.data.toList, k, no.toNat, st, en, fl⟩, A, cp), ?_, ⟨hk, by show no.toNat < 18446744073709551616; omega, hst, hen, hfl⟩, hr⟩
    have hall : cs.drop 0 = [.string c] ++ ([.slice A t.length cp] ++ gcells s k no st en fl) := by
      rw [drop_stepB cs 0 1, e0, show 0 + 1 = 1 from rfl]
      rw [drop_stepB cs 1 1, e1, show 1 + 1 = 2 from rfl]
      rw [drop_stepB cs 2 21, e2, show 2 + 21 = 23 from rfl]
      rw [List.drop_eq_nil_of_le (by omega), List.append_nil]
    rw [List.drop_zero] at hall
    rw [hall]
    show [Value.string c] ++ ([.slice A t.length cp] ++ gcells s k no st en fl) = [.string c, .slice A t.length cp] ++ gcells s k ((no.toNat : Nat) : Int) st en fl
    rw [Int.toNat_of_nonneg hno.1]
    rfl
end
/-- An operation: kind, time, server, ticket. -/
abbrev Op11 := Int × Int × List UInt8 × Ce
def op11C (o : Op11) : List Value := [.int .i64 o.1, .int .i64 o.2.1, .string ⟨o.2.2.1.toArray⟩] ++ ceC o.2.2.2
structure op11W (w : World) (o : Op11) : Prop where
  k : I64c o.1
  t : I64c o.2.1
  p : cdW o.2.2.2.1
  r : RB w w.heap.size o.2.2.2.2.1 o.2.2.2.1.tk o.2.2.2.2.2
theorem op11C_len {w : World} {o : Op11} (h : op11W w o) : (op11C o).length = 26 := by rw [op11C, List.length_append, ceC, cdC_length h.p.lk]; rfl
theorem op11C_one (o : Op11) : ∀ u ∈ op11C o, u.oneCell' = true := by
  intro u hu
  rcases List.mem_append.1 hu with hu | hu
  · simp only [List.mem_cons, List.not_mem_nil, or_false] at hu
    rcases hu with rfl | rfl | rfl <;> rfl
  · exact cdC_one _ _ _ u hu
theorem op11C_now (o : Op11) : (op11C o)[1]? = some (.int .i64 o.2.1) := rfl
theorem op11C_k (o : Op11) : (op11C o)[0]? = some (.int .i64 o.1) := rfl
theorem op11C_server (o : Op11) : (op11C o)[2]? = some (.string ⟨o.2.2.1.toArray⟩) := rfl
theorem op11C_cl (o : Op11) : (op11C o)[3]? = some (.string ⟨o.2.2.2.1.cl.toArray⟩) := rfl
theorem op11C_tk (o : Op11) : (op11C o)[4]? = some (.slice o.2.2.2.2.1 o.2.2.2.1.tk.length o.2.2.2.2.2) := rfl
theorem op11C_sv (o : Op11) : (op11C o)[5]? = some (.string ⟨o.2.2.2.1.sv.toArray⟩) := rfl
theorem op11C_p {w : World} {o : Op11} (h : op11W w o) : ((op11C o).drop 3).take 23 = ceC o.2.2.2 := by
  show (ceC o.2.2.2).take 23 = _
  exact List.take_of_length_le (by rw [ceC, cdC_length h.p.lk]; exact Nat.le_refl _)
section
variable {H : Type} {enc : TypeId × Value → H} {w : World} {base : Nat} {held : Bool}
set_option maxRecDepth 10000 in
theorem op11_of_trod {fuel : Nat} {cs : List Value} {x : DataW H × List MemPlace} (hlen : cs.length = 26) (hf0 : DataW.trod enc Tryd.prog w base (fun _ => true) held fuel 76 cs = some x) : ∃ o : Op11, cs = op11C o ∧ op11W w o := by
  obtain ⟨xs, n, _, _, _, hxl, hf⟩ := DataW.trod_struct Tryd.underlying76 hf0
  have hCk : Tryd.prog.cellsOf 49 = 16 := by kernel_rfl
  have hC6 : Tryd.prog.cellsOf 2 = 1 := by kernel_rfl
  have hCu : Tryd.prog.cellsOf 22 = 1 := by kernel_rfl
  have hCs : Tryd.prog.cellsOf 9 = 1 := by kernel_rfl
  have hCi : Tryd.prog.cellsOf 3 = 1 := by kernel_rfl
  have hCb : Tryd.prog.cellsOf 23 = 1 := by kernel_rfl
  have hCg : Tryd.prog.cellsOf 72 = 21 := by kernel_rfl
  have hCc : Tryd.prog.cellsOf 74 = 23 := by kernel_rfl
  match xs, hxl with
  | [y0, y1, y2, y3], _ =>
    have h0 := hf 0 _ rfl
    change DataW.trod enc Tryd.prog w base (fun _ => true) held n 3 (List.take (Tryd.prog.cellsOf 3) (List.drop 0 cs)) = some y0 at h0
    rw [hCi] at h0
    obtain ⟨k, e0, _, w0⟩ := DataW.trod_int Tryd.underlying3 h0
    have h1 := hf 1 _ rfl
    change DataW.trod enc Tryd.prog w base (fun _ => true) held n 2 (List.take (Tryd.prog.cellsOf 2) (List.drop 1 cs)) = some y1 at h1
    rw [hC6] at h1
    obtain ⟨t, e1, _, w1⟩ := DataW.trod_int Tryd.underlying2 h1
    have h2 := hf 2 _ rfl
    change DataW.trod enc Tryd.prog w base (fun _ => true) held n 9 (List.take (Tryd.prog.cellsOf 9) (List.drop 2 cs)) = some y2 at h2
    rw [hCs] at h2
    obtain ⟨s, e2, _, _⟩ := DataW.trod_string Tryd.underlying9 h2
    have h3 := hf 3 _ rfl
    change DataW.trod enc Tryd.prog w base (fun _ => true) held n 74 (List.take (Tryd.prog.cellsOf 74) (List.drop 3 cs)) = some y3 at h3
    rw [hCc] at h3
    obtain ⟨p, e3, hp, hr⟩ := cred_of_trod (by rw [List.length_take, List.length_drop, hlen]; rfl) h3
    refine ⟨(k, t, s.data.toList, p), ?_, ⟨wf64 w0, wf64 w1, hp, hr⟩⟩
    have hall : cs.drop 0 = [.int .i64 k] ++ ([.int .i64 t] ++ ([.string s] ++ ceC p)) := by
      rw [drop_stepB cs 0 1, e0, show 0 + 1 = 1 from rfl]
      rw [drop_stepB cs 1 1, e1, show 1 + 1 = 2 from rfl]
      rw [drop_stepB cs 2 1, e2, show 2 + 1 = 3 from rfl]
      rw [drop_stepB cs 3 23, e3, show 3 + 23 = 26 from rfl]
      rw [List.drop_eq_nil_of_le (by omega), List.append_nil]
    rw [List.drop_zero] at hall
    rw [hall]
    rfl
set_option maxRecDepth 10000 in
theorem ops11_of_trod {A : Option Addr} {len cap : Nat} {d : DataW H} {p : List MemPlace} (h : DataW.Trod enc Tryd.prog w base (fun _ => true) held 63 (.slice A len cap) d p) :
    ∃ us : List Op11, us.length = len ∧ SR w w.heap.size A 26 (us.map op11C) cap ∧ ∀ u ∈ us, op11W w u :=
  haveI : Inhabited Op11 := ⟨(0, 0, [], zeroCe)⟩
  SR.of_trod Tryd.underlying63 (by kernel_rfl) (by decide : 0 < 26) op11C (op11W w) (fun _ h => op11C_len h) (fun _ _ _ hl hx => op11_of_trod hl hx) h
end
def zeroO11 : List Value := [.int .i64 0, .int .i64 0, .string ⟨#[]⟩] ++ ceC zeroCe
theorem zeroO11_length : zeroO11.length = 26 := by rw [zeroO11, List.length_append, zeroCe_length]; rfl
theorem zeroO11_run (w : World) : (zeroValue 76).run Tryd.prog w = .ok (.agg zeroO11.toArray) w := by kernel_rfl
theorem aggO11 : AggT Tryd.prog 76 26 := ⟨fun _ => by kernel_rfl, by kernel_rfl⟩

def longO11 (o : Op11) : Bool := decide (100 < o.2.2.1.length) || (decide (100 < o.2.2.2.1.cl.length) || (decide (100 < o.2.2.2.1.sv.length) || decide (500 < o.2.2.2.1.tk.length)))
def greatO11 (l : List Op11) : Bool := decide (60 < l.length) || l.any longO11
theorem any_take11 {l : List Op11} {k : Nat} (hk : k < l.length) : (l.take (k + 1)).any longO11 = ((l.take k).any longO11 || longO11 l[k]) := by
  rw [List.take_succ_eq_append_getElem hk, List.any_append]
  simp
theorem great_len11 {l : List Op11} (h : greatO11 l = false) : l.length ≤ 60 := by
  unfold greatO11 at h
  rw [Bool.or_eq_false_iff] at h
  have := of_decide_eq_false h.1
  omega
theorem great_ok11 {w : World} {l : List Op11} (h : greatO11 l = false) {o : Op11} (ho : o ∈ l) (hw : op11W w o) : cdOk o.2.2.2.1 ∧ o.2.2.1.length ≤ 100 := by
  unfold greatO11 at h
  rw [Bool.or_eq_false_iff] at h
  have h2 := h.2
  rw [List.any_eq_false] at h2
  have h3 := h2 o ho
  unfold longO11 at h3
  simp at h3
  exact ⟨⟨by omega, by omega, by omega, hw.p⟩, by omega⟩

set_option maxRecDepth 10000 in
set_option maxHeartbeats 2000000 in
theorem cgreat_any (w w0 : World) (A : Option Addr) (l : List Op11) (n cap B : Nat) (hn : l.length = n) (hA : SR w B A 26 (l.map op11C) cap) (hB : B ≤ w.heap.size) (hl : ∀ o ∈ l, op11W w0 o) :
    Calls Tryd.prog 31 #[.slice A n cap] w fun e w' => e = .returned (.bool (greatO11 l)) ∧ w.grownBy w' none := by
  by_cases h0 : 60 < n
  · have t0 : decide ((60 : Int) < (n : Int)) = true := decide_eq_true (by omega)
    have hg : greatO11 l = true := by unfold greatO11; rw [hn, decide_eq_true h0]; rfl
    rw [hg]
    clear h0 hA hB hl hg hn
    go_enter Tryd.func31, Tryd.ntmps31
    go_wp2
    go_ret
    exact ⟨rfl, World.grownBy.refl _ _⟩
  · have t0 : decide ((60 : Int) < (n : Int)) = false := decide_eq_false (by omega)
    have hg : greatO11 l = l.any longO11 := by unfold greatO11; rw [hn, decide_eq_false h0]; rfl
    rw [hg]
    have HN := Lib.hid hn
    have HA := Lib.hid hA
    have HB := Lib.hid hB
    have HL := Lib.hid hl
    have N0 := Lib.hid h0
    clear h0 hA hB hl hg hn
    go_enter Tryd.func31, Tryd.ntmps31
    go_wp2
    clear t0
    go_loopw [10] (fun v wr => ∃ k : Nat, k ≤ n ∧ v = .int .i64 k ∧ (l.take k).any longO11 = false ∧ w.grownBy wr none) (fun v _ => n - (intOf v).toNat)
    case atStart => exact ⟨0, Nat.zero_le _, rfl, rfl, World.grownBy.refl _ _⟩
    case round =>
      obtain ⟨k, hk, rfl, hany, hW⟩ := hrel
      have HW := Lib.hid hW
      have hn0 := N0.out
      by_cases hlt : k < n
      · obtain ⟨o, ho⟩ : ∃ o, o = l[k]'(by rw [HN.out]; exact hlt) := ⟨_, rfl⟩
        obtain ⟨ab, ao, hAe, hab, hcells⟩ := HA.out.elem (k := k) (by rw [List.length_map, HN.out]; exact hlt)
        have HOW := Lib.hid (show op11W w0 o by rw [ho]; exact HL.out _ (List.getElem_mem _))
        have hce : (l.map op11C)[k]'(by rw [List.length_map, HN.out]; exact hlt) = op11C o := by rw [List.getElem_map, ho]
        rw [hce] at hcells
        have HCELL := Lib.hid (show ∀ j v, (op11C o)[j]? = some v → wr.cell? ⟨ab, ao + 26 * k + j, none⟩ = some v from fun j v hj => ((below_of_none HW.out).cell (p := ⟨ab, _, none⟩) (Nat.lt_of_lt_of_le hab HB.out)).trans (hcells j v hj))
        have HNX := Lib.hid (show (l.take (k + 1)).any longO11 = longO11 o by rw [any_take11 (by rw [HN.out]; exact hlt), hany, ho]; rfl)
        have HMEM := Lib.hid (show o ∈ l by rw [ho]; exact List.getElem_mem _)
        subst hAe
        clear hW hce hcells ho hab hany
        have HB1 := Lib.hid (CB.new wr 76 zeroO11)
        obtain ⟨b1, hb1⟩ : ∃ b, b = decide (100 < o.2.2.1.length) := ⟨_, rfl⟩
        obtain ⟨b2, hb2⟩ : ∃ b, b = decide (100 < o.2.2.2.1.cl.length) := ⟨_, rfl⟩
        obtain ⟨b3, hb3⟩ : ∃ b, b = decide (100 < o.2.2.2.1.sv.length) := ⟨_, rfl⟩
        obtain ⟨b4, hb4⟩ : ∃ b, b = decide (500 < o.2.2.2.1.tk.length) := ⟨_, rfl⟩
        have HE := Lib.hid (show longO11 o = (b1 || (b2 || (b3 || b4))) by rw [hb1, hb2, hb3, hb4]; rfl)
        have e1 : decide ((100 : Int) < (o.2.2.1.length : Int)) = b1 := by rw [hb1]; exact decide_eq_decide.2 (by omega)
        have e2 : decide ((100 : Int) < (o.2.2.2.1.cl.length : Int)) = b2 := by rw [hb2]; exact decide_eq_decide.2 (by omega)
        have e3 : decide ((100 : Int) < (o.2.2.2.1.sv.length : Int)) = b3 := by rw [hb3]; exact decide_eq_decide.2 (by omega)
        have e4 : decide ((500 : Int) < (o.2.2.2.1.tk.length : Int)) = b4 := by rw [hb4]; exact decide_eq_decide.2 (by omega)
        have TK0 := Lib.hid True.intro
        clear hb1 hb2 hb3 hb4
        have HTR := Lib.hid (show longO11 o = true → l.any longO11 = true from fun h => List.any_eq_true.2 ⟨o, HMEM.out, h⟩)
        rcases (show b1 = true ∨ (b1 = false ∧ b2 = true) ∨ (b1 = false ∧ b2 = false ∧ b3 = true) ∨ (b1 = false ∧ b2 = false ∧ b3 = false ∧ b4 = true) ∨ (b1 = false ∧ b2 = false ∧ b3 = false ∧ b4 = false) by cases b1 <;> cases b2 <;> cases b3 <;> cases b4 <;> simp) with rfl | ⟨rfl, rfl⟩ | ⟨rfl, rfl, rfl⟩ | ⟨rfl, rfl, rfl, rfl⟩ | ⟨rfl, rfl, rfl, rfl⟩
        · have HT := Lib.hid (HTR.out (by rw [HE.out]; simp))
          go_wp2_with (first
            | (have hx := TK0; refine wpList_loadX (p := op11C o) aggO11 rfl (.tmp 12) rfl (b := ab) (off := ao + 26 * k) HCELL.out (op11C_len HOW.out) (by first | rfl | go_simp) ?_; clear hx TK0; have TK1 := Lib.hid True.intro)
            | (have hx := TK1; refine wpList_allocC zeroO11_run rfl rfl ?_; clear hx TK1; have TK2 := Lib.hid True.intro)
            | (have hx := TK2; refine wpList_storeC (off := 0) (p := op11C o) aggO11.hi rfl (.tmp 4) (.tmp 13) rfl (.agg (op11C o).toArray) rfl (op11C_one o) HB1.out (op11C_len HOW.out) (by rw [zeroO11_length]; omega) (by first | rfl | go_simp) (by first | rfl | go_simp) ?_; clear hx TK2; intro w2 h2 g2; rw [over_all _ _ (Nat.le_of_eq (by rw [zeroO11_length, op11C_len HOW.out]))] at h2; have q0 := h2.at_ (op11C_server o); have q1 := h2.at_ (op11C_cl o); have q2 := h2.at_ (op11C_sv o); have q3 := h2.at_ (op11C_tk o); have W2 := Lib.hid (none_new (grown_trans' HW.out (grown_alloc wr (.cells zeroO11.toArray 76) none)) g2 HW.out.size); clear h2 g2))
          go_ret
          rw [HT.out]
          exact ⟨rfl, W2.out⟩
        · have HT := Lib.hid (HTR.out (by rw [HE.out]; simp))
          go_wp2_with (first
            | (have hx := TK0; refine wpList_loadX (p := op11C o) aggO11 rfl (.tmp 12) rfl (b := ab) (off := ao + 26 * k) HCELL.out (op11C_len HOW.out) (by first | rfl | go_simp) ?_; clear hx TK0; have TK1 := Lib.hid True.intro)
            | (have hx := TK1; refine wpList_allocC zeroO11_run rfl rfl ?_; clear hx TK1; have TK2 := Lib.hid True.intro)
            | (have hx := TK2; refine wpList_storeC (off := 0) (p := op11C o) aggO11.hi rfl (.tmp 4) (.tmp 13) rfl (.agg (op11C o).toArray) rfl (op11C_one o) HB1.out (op11C_len HOW.out) (by rw [zeroO11_length]; omega) (by first | rfl | go_simp) (by first | rfl | go_simp) ?_; clear hx TK2; intro w2 h2 g2; rw [over_all _ _ (Nat.le_of_eq (by rw [zeroO11_length, op11C_len HOW.out]))] at h2; have q0 := h2.at_ (op11C_server o); have q1 := h2.at_ (op11C_cl o); have q2 := h2.at_ (op11C_sv o); have q3 := h2.at_ (op11C_tk o); have W2 := Lib.hid (none_new (grown_trans' HW.out (grown_alloc wr (.cells zeroO11.toArray 76) none)) g2 HW.out.size); clear h2 g2))
          go_ret
          rw [HT.out]
          exact ⟨rfl, W2.out⟩
        · have HT := Lib.hid (HTR.out (by rw [HE.out]; simp))
          go_wp2_with (first
            | (have hx := TK0; refine wpList_loadX (p := op11C o) aggO11 rfl (.tmp 12) rfl (b := ab) (off := ao + 26 * k) HCELL.out (op11C_len HOW.out) (by first | rfl | go_simp) ?_; clear hx TK0; have TK1 := Lib.hid True.intro)
            | (have hx := TK1; refine wpList_allocC zeroO11_run rfl rfl ?_; clear hx TK1; have TK2 := Lib.hid True.intro)
            | (have hx := TK2; refine wpList_storeC (off := 0) (p := op11C o) aggO11.hi rfl (.tmp 4) (.tmp 13) rfl (.agg (op11C o).toArray) rfl (op11C_one o) HB1.out (op11C_len HOW.out) (by rw [zeroO11_length]; omega) (by first | rfl | go_simp) (by first | rfl | go_simp) ?_; clear hx TK2; intro w2 h2 g2; rw [over_all _ _ (Nat.le_of_eq (by rw [zeroO11_length, op11C_len HOW.out]))] at h2; have q0 := h2.at_ (op11C_server o); have q1 := h2.at_ (op11C_cl o); have q2 := h2.at_ (op11C_sv o); have q3 := h2.at_ (op11C_tk o); have W2 := Lib.hid (none_new (grown_trans' HW.out (grown_alloc wr (.cells zeroO11.toArray 76) none)) g2 HW.out.size); clear h2 g2))
          go_ret
          rw [HT.out]
          exact ⟨rfl, W2.out⟩
        · have HT := Lib.hid (HTR.out (by rw [HE.out]; simp))
          go_wp2_with (first
            | (have hx := TK0; refine wpList_loadX (p := op11C o) aggO11 rfl (.tmp 12) rfl (b := ab) (off := ao + 26 * k) HCELL.out (op11C_len HOW.out) (by first | rfl | go_simp) ?_; clear hx TK0; have TK1 := Lib.hid True.intro)
            | (have hx := TK1; refine wpList_allocC zeroO11_run rfl rfl ?_; clear hx TK1; have TK2 := Lib.hid True.intro)
            | (have hx := TK2; refine wpList_storeC (off := 0) (p := op11C o) aggO11.hi rfl (.tmp 4) (.tmp 13) rfl (.agg (op11C o).toArray) rfl (op11C_one o) HB1.out (op11C_len HOW.out) (by rw [zeroO11_length]; omega) (by first | rfl | go_simp) (by first | rfl | go_simp) ?_; clear hx TK2; intro w2 h2 g2; rw [over_all _ _ (Nat.le_of_eq (by rw [zeroO11_length, op11C_len HOW.out]))] at h2; have q0 := h2.at_ (op11C_server o); have q1 := h2.at_ (op11C_cl o); have q2 := h2.at_ (op11C_sv o); have q3 := h2.at_ (op11C_tk o); have W2 := Lib.hid (none_new (grown_trans' HW.out (grown_alloc wr (.cells zeroO11.toArray 76) none)) g2 HW.out.size); clear h2 g2))
          go_ret
          rw [HT.out]
          exact ⟨rfl, W2.out⟩
        · have HF := Lib.hid (show longO11 o = false by rw [HE.out]; rfl)
          go_wp2_with (first
            | (have hx := TK0; refine wpList_loadX (p := op11C o) aggO11 rfl (.tmp 12) rfl (b := ab) (off := ao + 26 * k) HCELL.out (op11C_len HOW.out) (by first | rfl | go_simp) ?_; clear hx TK0; have TK1 := Lib.hid True.intro)
            | (have hx := TK1; refine wpList_allocC zeroO11_run rfl rfl ?_; clear hx TK1; have TK2 := Lib.hid True.intro)
            | (have hx := TK2; refine wpList_storeC (off := 0) (p := op11C o) aggO11.hi rfl (.tmp 4) (.tmp 13) rfl (.agg (op11C o).toArray) rfl (op11C_one o) HB1.out (op11C_len HOW.out) (by rw [zeroO11_length]; omega) (by first | rfl | go_simp) (by first | rfl | go_simp) ?_; clear hx TK2; intro w2 h2 g2; rw [over_all _ _ (Nat.le_of_eq (by rw [zeroO11_length, op11C_len HOW.out]))] at h2; have q0 := h2.at_ (op11C_server o); have q1 := h2.at_ (op11C_cl o); have q2 := h2.at_ (op11C_sv o); have q3 := h2.at_ (op11C_tk o); have W2 := Lib.hid (none_new (grown_trans' HW.out (grown_alloc wr (.cells zeroO11.toArray 76) none)) g2 HW.out.size); clear h2 g2))
          go_roundw
          case rel => exact ⟨k + 1, by omega, by go_num, by rw [HNX.out, HF.out], W2.out⟩
          case measure => simp [intOf]; omega
      · have HE := Lib.hid (show l.any longO11 = false by
          rw [show k = n by omega, ← HN.out, List.take_length] at hany
          exact hany)
        clear hW hany
        go_wp2
        go_ret
        rw [HE.out]
        exact ⟨rfl, HW.out⟩

/-! Same. -/
def qGr (x y : Cd) (f : Field) : Bool := match f.offset with
  | 0 => decide (x.sv = y.sv)
  | 1 => decide (x.ky = y.ky)
  | 17 => decide (x.no = y.no)
  | 18 => decide (x.st = y.st)
  | 19 => decide (x.en = y.en)
  | _ => decide (x.fl = y.fl)
def eqGr (x y : Cd) : Bool := decide (x.sv = y.sv) && (decide (x.ky = y.ky) && (decide (x.no = y.no) && (decide (x.st = y.st) && (decide (x.en = y.en) && decide (x.fl = y.fl)))))
theorem grC_key {x : Cd} (h : cdW x) : ((grC x).drop 1).take 16 = bcells x.ky := by
  show (bcells x.ky ++ [Value.int .u64 (x.no : Int), .int .i64 x.st, .int .i64 x.en, .int .i64 x.fl]).take 16 = _
  exact List.take_left' (by rw [bcells_length, h.lk])
theorem grC_at {x : Cd} (h : cdW x) : (grC x)[17]? = some (.int .u64 (x.no : Int)) ∧ (grC x)[18]? = some (.int .i64 x.st) ∧ (grC x)[19]? = some (.int .i64 x.en) ∧ (grC x)[20]? = some (.int .i64 x.fl) := by
  unfold grC gcells
  simp [bcells_length, h.lk]
set_option maxRecDepth 10000 in
theorem run_eqGr (x y : Cd) (hx : cdW x) (hy : cdW y) (w : World) : (binOp .eql 72 (.agg (grC x).toArray) (.agg (grC y).toArray)).run Tryd.prog w = .ok (.bool (eqGr x y)) w := by
  rw [run_eqlB]
  have hs := run_structE Tryd.underlying72 (by kernel_rfl) 9999 (grC x).toArray (grC y).toArray (qGr x y) (fun f hf => by
    simp only [List.mem_cons, List.not_mem_nil, or_false] at hf
    rcases hf with rfl | rfl | rfl | rfl | rfl | rfl
    · exact ⟨by decide, _, _, run_partXe (by intro w; kernel_rfl) (show (grC x)[0]? = some (.string ⟨x.sv.toArray⟩) from rfl), run_partXe (by intro w; kernel_rfl) (show (grC y)[0]? = some (.string ⟨y.sv.toArray⟩) from rfl), fun w => by rw [run_eqS Tryd.underlying9, ba_beqB]; rfl⟩
    · exact ⟨by decide, _, _, run_partAe (n := 16) aggKB (grC_key hx), run_partAe (n := 16) aggKB (grC_key hy), fun w => by
        have := run_arrB Tryd.underlying49 sz8B Tryd.underlying5 hx.lk hy.lk 9997 w
        rw [this]
        congr 1
        show (x.ky == y.ky) = decide (x.ky = y.ky)
        rw [Bool.eq_iff_iff, beq_iff_eq, decide_eq_true_iff]⟩
    · exact ⟨by decide, _, _, run_partXe (by intro w; kernel_rfl) (grC_at hx).1, run_partXe (by intro w; kernel_rfl) (grC_at hy).1, fun w => by
        rw [run_eqI Tryd.underlying22]
        congr 1
        show ((x.no : Int) == (y.no : Int)) = decide (x.no = y.no)
        rw [Bool.eq_iff_iff, beq_iff_eq, decide_eq_true_iff]
        omega⟩
    · exact ⟨by decide, _, _, run_partXe (by intro w; kernel_rfl) (grC_at hx).2.1, run_partXe (by intro w; kernel_rfl) (grC_at hy).2.1, fun w => by rw [run_eqI Tryd.underlying2]; rfl⟩
    · exact ⟨by decide, _, _, run_partXe (by intro w; kernel_rfl) (grC_at hx).2.2.1, run_partXe (by intro w; kernel_rfl) (grC_at hy).2.2.1, fun w => by rw [run_eqI Tryd.underlying2]; rfl⟩
    · exact ⟨by decide, _, _, run_partXe (by intro w; kernel_rfl) (grC_at hx).2.2.2, run_partXe (by intro w; kernel_rfl) (grC_at hy).2.2.2, fun w => by rw [run_eqI Tryd.underlying3]; rfl⟩) w
  rw [hs]
  show Result.ok (Value.bool (decide (x.sv = y.sv) && (decide (x.ky = y.ky) && (decide (x.no = y.no) && (decide (x.st = y.st) && (decide (x.en = y.en) && (decide (x.fl = y.fl) && true))))))) w = _
  rw [Bool.and_true]
  rfl
end Go.Proofs.YtejmbabeniekhaaDoor
namespace Go.Proofs.YtejmbabeniekhaaDoor
open Go.RowKit Go.Maps Go.WideMaps

theorem cput_at2 (x : Cd) (A : Option Addr) (c0 : Nat) (h : cdOk x) (w w0 : World) (hM : ML w0) (hw : w0.grownBy w none) (hT : RB w w.heap.size A x.tk c0) (c b : Nat) (hTb : ∀ a, A = some a → x.tk = [] ∨ a.block ≠ b) (M : Cm) (hS : KS w c b M) (hlen : M.length ≤ 1000000) (now : Int) (C : Array Value) (hC : C = (cdC x A c0).toArray) :
    Calls Tryd.prog 35 #[.pointer (some ⟨c, 0, none⟩), .agg C, .int .i64 now] w (PutR2 w c b M x now) := by
  subst hC
  exact cput_two x A c0 h w (hM.below (below_of_none hw)) hT c b hTb M hS hlen now
def sameC (x y : Cd) : Bool := decide (x.cl = y.cl) && (decide (x.tk = y.tk) && eqGr x y)
theorem sameC_refl (x : Cd) : sameC x x = true := by simp [sameC, eqGr]
set_option maxRecDepth 10000 in
set_option maxHeartbeats 2000000 in
theorem csame_any (x y : Cd) (A A' : Option Addr) (c c' : Nat) (hx : cdW x) (hy : cdW y) (w : World) (hA : RB w w.heap.size A x.tk c) (hA' : RB w w.heap.size A' y.tk c') :
    Calls Tryd.prog 40 #[.agg (cdC x A c).toArray, .agg (cdC y A' c').toArray] w fun e w' => e = .returned (.bool (sameC x y)) ∧ w.grownBy w' none := by
  have BX := Lib.hid ((CB.new w 74 (cdC x A c)).alloc (.cells (cdC y A' c').toArray 74))
  have BY := Lib.hid (CB.new1 w (.cells (cdC x A c).toArray 74) 74 (cdC y A' c'))
  have G0 := Lib.hid (grown_trans' (grown_alloc w (.cells (cdC x A c).toArray 74) none) (grown_alloc _ (.cells (cdC y A' c').toArray 74) none))
  have HX := Lib.hid (cdC_length hx.lk A c)
  have HY := Lib.hid (cdC_length hy.lk A' c')
  have GX := Lib.hid (cdC_gr hx.lk A c)
  have GY := Lib.hid (cdC_gr hy.lk A' c')
  have x0 := BX.out.at_ (cdC_cl x A c)
  have y0 := BY.out.at_ (cdC_cl y A' c')
  have x1 := BX.out.at_ (cdC_tk x A c)
  have y1 := BY.out.at_ (cdC_tk y A' c')
  have s1 := run_strB byteT Tryd.underlying9 (hA.row_ G0.out)
  have s2 := run_strB byteT Tryd.underlying9 (hA'.row_ G0.out)
  have HQ := Lib.hid (run_eqGr x y hx hy)
  obtain ⟨b1, hb1⟩ : ∃ b, b = decide (x.cl = y.cl) := ⟨_, rfl⟩
  obtain ⟨b2, hb2⟩ : ∃ b, b = decide (x.tk = y.tk) := ⟨_, rfl⟩
  have HS := Lib.hid (show sameC x y = (b1 && (b2 && eqGr x y)) by rw [hb1, hb2]; rfl)
  have e1 : (x.cl == y.cl) = b1 := by rw [hb1, Bool.eq_iff_iff, beq_iff_eq, decide_eq_true_iff]
  have e2 : (x.tk == y.tk) = b2 := by rw [hb2, Bool.eq_iff_iff, beq_iff_eq, decide_eq_true_iff]
  clear hb1 hb2 hx hy hA hA'
  rw [HS.out]
  have TK0 := Lib.hid True.intro
  cases b1 with
  | false =>
    go_enter Tryd.func40, Tryd.ntmps40
    go_wp2
    go_ret
    exact ⟨rfl, G0.out⟩
  | true =>
    cases b2 with
    | false =>
      go_enter Tryd.func40, Tryd.ntmps40
      go_wp2
      go_ret
      exact ⟨rfl, G0.out⟩
    | true =>
      have heq := HQ.out
      go_enter Tryd.func40, Tryd.ntmps40
      go_wp2_with (first
        | (have hx := TK0; refine wpList_loadCg (off := 2) (p := grC x) aggGc (by first | rfl | go_simp) (.tmp 20) rfl BX.out GX.out (by rw [HX.out]; omega) (by first | rfl | go_simp) ?_; clear hx TK0; have TK1 := Lib.hid True.intro)
        | (have hx := TK1; refine wpList_loadCg (off := 2) (p := grC y) aggGc (by first | rfl | go_simp) (.tmp 22) rfl BY.out GY.out (by rw [HY.out]; omega) (by first | rfl | go_simp) ?_; clear hx TK1))
      go_ret
      exact ⟨by simp, G0.out⟩

/-- What is known of the memory and of the last that was put for a server. -/
def RelFr (s : List UInt8) (M : Cm) (any : Bool) (x : Cd) : Prop := M.length ≤ 8 ∧ ∀ p ∈ M, p.1 = s → any = true ∧ p.2.1 = x
theorem live_len {M : Cm} {now : Int} : (liveM M now).length ≤ M.length := List.length_filter_le _ _
theorem PutC.cases {M M' : Cm} {x : Cd} {now n : Int} (h : PutC M x now M' n) : (n ≠ 0 ∧ (M' = M ∨ M' = liveM M now)) ∨ (n = 0 ∧ ∃ A' c', M' = withoutM (liveM M now) x.sv ++ [(x.sv, (x, A', c'))] ∧ (x.sv ∈ keysM (liveM M now) ∨ (liveM M now).length < 8)) := by
  unfold PutC at h
  split at h
  · exact .inl ⟨by rw [h.2]; omega, .inl h.1⟩
  · split at h
    · exact .inl ⟨by rw [h.2]; omega, .inl h.1⟩
    · split at h
      · exact .inl ⟨by rw [h.2]; omega, .inr h.1⟩
      · rename_i h3
        obtain ⟨A', c', h1, h2⟩ := h
        refine .inr ⟨h2, A', c', h1, ?_⟩
        by_cases hin : x.sv ∈ keysM (liveM M now)
        · exact .inl hin
        · exact .inr (by
            have : ¬ 8 ≤ (liveM M now).length := fun h8 => h3 ⟨hin, h8⟩
            omega)
theorem PutC.small {M M' : Cm} {x : Cd} {now n : Int} (h : PutC M x now M' n) (hd : (keysM M).Nodup) (h8 : M.length ≤ 8) : M'.length ≤ 8 := by
  have hl := live_len (M := M) (now := now)
  rcases h.cases with ⟨_, rfl | rfl⟩ | ⟨_, A', c', rfl, hk⟩
  · exact h8
  · omega
  · rw [List.length_append, List.length_singleton]
    rcases hk with hk | hk
    · have hnd : (keysM (liveM M now)).Nodup := List.Sublist.nodup (List.filter_sublist.map _) hd
      have hpw : ∀ (L : Cm), (keysM L).Nodup → x.sv ∈ keysM L → (withoutM L x.sv).length + 1 = L.length := by
        intro L
        induction L with
        | nil => intro _ h; cases h
        | cons p L ih =>
          intro hd h
          unfold keysM at hd h
          rw [List.map_cons, List.nodup_cons] at hd
          rw [List.map_cons, List.mem_cons] at h
          unfold withoutM
          by_cases e : p.1 = x.sv
          · rw [List.filter_cons, if_neg (by simp [e])]
            have : L.filter (fun q => decide (q.1 ≠ x.sv)) = L := List.filter_eq_self.2 fun q hq => by
              refine decide_eq_true fun e2 => hd.1 ?_
              rw [e, ← e2]
              exact List.mem_map.2 ⟨q, hq, rfl⟩
            rw [this, List.length_cons]
          · rw [List.filter_cons, if_pos (by simp [e]), List.length_cons, List.length_cons]
            have := ih hd.2 (h.resolve_left (fun h2 => e h2.symm))
            unfold withoutM at this
            omega
      have := hpw _ hnd hk
      omega
    · have : (withoutM (liveM M now) x.sv).length ≤ (liveM M now).length := List.length_filter_le _ _
      omega
theorem RelFr.other {s : List UInt8} {M M' : Cm} {any : Bool} {x y : Cd} {now n : Int} (h : RelFr s M any x) (hd : (keysM M).Nodup) (hp : PutC M y now M' n) (hn : n ≠ 0 ∨ y.sv ≠ s) : RelFr s M' any x := by
  refine ⟨hp.small hd h.1, fun p hpm e => ?_⟩
  rcases hp.cases with ⟨_, rfl | rfl⟩ | ⟨h0, A', c', rfl, _⟩
  · exact h.2 p hpm e
  · exact h.2 p (live_sub _ hpm) e
  · rcases List.mem_append.1 hpm with hpm | hpm
    · exact h.2 p (live_sub _ (List.mem_filter.1 hpm).1) e
    · rw [List.mem_singleton.1 hpm] at e
      exact absurd e (hn.resolve_left (fun h => h h0))
theorem RelFr.this {s : List UInt8} {M M' : Cm} {any : Bool} {x y : Cd} {now n : Int} (h : RelFr s M any x) (hd : (keysM M).Nodup) (hp : PutC M y now M' n) (hn : n = 0) (hs : y.sv = s) : RelFr s M' true y := by
  refine ⟨hp.small hd h.1, fun p hpm e => ?_⟩
  rcases hp.cases with ⟨h0, _⟩ | ⟨h0, A', c', rfl, _⟩
  · exact absurd hn h0
  · rcases List.mem_append.1 hpm with hpm | hpm
    · have := (List.mem_filter.1 hpm).2
      exact absurd (e.trans hs.symm) (by simpa using this)
    · rw [List.mem_singleton.1 hpm]
      exact ⟨rfl, rfl⟩

set_option maxRecDepth 10000 in
set_option maxHeartbeats 1000000 in
theorem fresh_out (w : World) (hM : ML w) (A : Option Addr) (l : List Op11) (n cap : Nat) (hn : l.length = n) (hA : SR w w.heap.size A 26 (l.map op11C) cap) (hl : ∀ o ∈ l, op11W w o) (s : List UInt8) (now : Int) (hg : greatO11 l = true ∨ 100 < s.length) :
    Calls Tryd.prog 9 #[.slice A n cap, strV s, .int .i64 now] w fun x w' => x = .returned (.bool true) ∧ w.grownBy w' none := by
  have HM := Lib.hid hM
  have HN := Lib.hid hn
  have HA := Lib.hid hA
  have HL := Lib.hid hl
  have TK0 := Lib.hid True.intro
  obtain ⟨G, hG⟩ : ∃ G, G = greatO11 l := ⟨_, rfl⟩
  have HGE := Lib.hid hG
  rw [← hG] at hg
  clear hM hn hA hl hG
  show Calls _ _ #[.slice A n cap, .string ⟨s.toArray⟩, .int .i64 now] _ _
  cases G with
  | true =>
    clear hg
    go_enter Tryd.func9, Tryd.ntmps9
    go_wp2_with (first
      | (go_at_call 30; refine (cspeaks_any _ HM.out).mono ?_; rintro x wa ⟨rfl, ga⟩; have GA := Lib.hid ga; clear ga)
      | (go_at_call 31; refine (cgreat_any _ w A l n cap w.heap.size HN.out (HA.out.made GA.out (Nat.le_refl _)) GA.out.size HL.out).mono ?_; rintro x wb ⟨rfl, gb⟩; rw [← HGE.out]; have GB := Lib.hid (grown_trans' GA.out gb); clear gb))
    go_ret
    exact ⟨rfl, GB.out⟩
  | false =>
    have d1 : decide ((100 : Int) < (s.length : Int)) = true := decide_eq_true (by have := hg.resolve_left (by simp); omega)
    clear hg
    go_enter Tryd.func9, Tryd.ntmps9
    go_wp2_with (first
      | (go_at_call 30; refine (cspeaks_any _ HM.out).mono ?_; rintro x wa ⟨rfl, ga⟩; have GA := Lib.hid ga; clear ga)
      | (go_at_call 31; refine (cgreat_any _ w A l n cap w.heap.size HN.out (HA.out.made GA.out (Nat.le_refl _)) GA.out.size HL.out).mono ?_; rintro x wb ⟨rfl, gb⟩; rw [← HGE.out]; have GB := Lib.hid (grown_trans' GA.out gb); clear gb))
    go_ret
    exact ⟨rfl, GB.out⟩

set_option maxRecDepth 10000 in
set_option maxHeartbeats 4000000 in
theorem fresh_in (w : World) (hM : ML w) (A : Option Addr) (l : List Op11) (n cap : Nat) (hn : l.length = n) (hA : SR w w.heap.size A 26 (l.map op11C) cap) (hl : ∀ o ∈ l, op11W w o) (s : List UInt8) (now : Int) (hg : greatO11 l = false) (hs : s.length ≤ 100) :
    Calls Tryd.prog 9 #[.slice A n cap, strV s, .int .i64 now] w fun x w' => x = .returned (.bool true) ∧ w.grownBy w' none := by
  have HM := Lib.hid hM
  have HN := Lib.hid hn
  have HA := Lib.hid hA
  have HL := Lib.hid hl
  have HGE := Lib.hid hg
  have HSL := Lib.hid hs
  have HLZ := Lib.hid zeroCe_length
  have N0 := Lib.hid (show n ≤ 60 by rw [← hn]; exact great_len11 hg)
  have d1 : decide ((100 : Int) < (s.length : Int)) = false := decide_eq_false (by omega)
  clear hM hn hA hl hg hs
  show Calls _ _ #[.slice A n cap, .string ⟨s.toArray⟩, .int .i64 now] _ _
  go_enter Tryd.func9, Tryd.ntmps9
  go_wp2_with (first
    | (go_at_call 30; refine (cspeaks_any _ HM.out).mono ?_; rintro x wa ⟨rfl, ga⟩; have GA := Lib.hid ga; clear ga)
    | (go_at_call 31; refine (cgreat_any _ w A l n cap w.heap.size HN.out (HA.out.made GA.out (Nat.le_refl _)) GA.out.size HL.out).mono ?_; rintro x wb ⟨rfl, gb⟩; rw [HGE.out]; have GB := Lib.hid (grown_trans' GA.out gb); clear gb)
    | (go_at_call 32; refine (cnew_any _).mono ?_; rintro x w1 ⟨rfl, h1, g1⟩; have H1 := Lib.hid h1; have G1 := Lib.hid (grown_trans' GB.out g1); have TK1 := Lib.hid True.intro; clear h1 g1)
    | (have hx := TK1; refine wpList_allocC zeroC_run rfl rfl ?_; clear hx TK1; have TK2 := Lib.hid True.intro)
    | (have hx := TK2; refine wpList_storeC (off := 0) (p := ceC zeroCe) aggC.hi rfl (.tmp 8) (.tmp 26) rfl (ceV zeroCe) rfl (cdC_one _ _ _) (CB.new w1 74 (ceC zeroCe)) HLZ.out (by rw [HLZ.out]; omega) (by first | rfl | go_simp) (by first | rfl | go_simp) ?_; clear hx TK2; intro w2 h2 g2; rw [over_all _ _ (Nat.le_refl _)] at h2; have B2 := Lib.hid h2; have G2' := Lib.hid (none_new (grown_alloc w1 (.cells (ceC zeroCe).toArray 74) none) g2 (Nat.le_refl _)); have H2 := Lib.hid (H1.out.none G2'.out); have G2 := Lib.hid (grown_trans' G1.out G2'.out); clear h2 g2))
  clear d1
  obtain ⟨c, hc⟩ : ∃ c, wb.heap.size + 1 = c := ⟨_, rfl⟩
  obtain ⟨b, hb⟩ : ∃ b, wb.heap.size = b := ⟨_, rfl⟩
  have HCE := Lib.hid (show w.heap.size ≤ b ∧ b < w1.heap.size by have h1 := GB.out.size; have h2 := H1.out.lt; omega)
  have HCB := Lib.hid (show c < w1.heap.size by have h2 := H1.out.lt; omega)
  rw [hc, hb] at H2
  rw [hc]
  obtain ⟨g0, hg0⟩ : ∃ g0, w1.heap.size = g0 := ⟨_, rfl⟩
  rw [hg0] at B2 HCE HCB
  rw [hg0]
  have HGW := Lib.hid (show w.heap.size ≤ g0 by rw [← hg0]; exact G1.out.size)
  clear hc hb hg0
  go_loopw [9, 29] (fun an v wr => ∃ (k : Nat) (M : Cm) (any : Bool) (p : Ce), k ≤ n ∧ v = .int .i64 k ∧ an = .bool any ∧ KS wr c b M ∧ RelFr s M any p.1 ∧ CB wr g0 74 (ceC p) ∧ cdW p.1 ∧ RB w w.heap.size p.2.1 p.1.tk p.2.2 ∧ (∀ q ∈ M, ∀ a, q.2.2.1 = some a → g0 < a.block) ∧ w.grownBy wr none) (fun _ v _ => n - (intOf v).toNat)
  case atStart => exact ⟨0, _, false, zeroCe, Nat.zero_le _, rfl, rfl, H2.out, ⟨by simp, (fun p hp => by cases hp)⟩, B2.out, ⟨zeros_length 16, by show 0 < 18446744073709551616; omega, by show I64c 0; unfold I64c; omega, by show I64c 0; unfold I64c; omega, by show I64c 0; unfold I64c; omega⟩, RB.nil_ _ _, (fun q hq => by cases hq), G2.out⟩
  case round =>
    obtain ⟨k, M, any, p, hk, rfl, rfl, hS, hR, hB, hpw, hpr, hgt, hW⟩ := hrel
    have HGT := Lib.hid hgt
    have HS := Lib.hid hS
    have HR := Lib.hid hR
    have HB := Lib.hid hB
    have HPW := Lib.hid hpw
    have HPR := Lib.hid hpr
    have HW := Lib.hid hW
    have hn0 := N0.out
    by_cases hlt : k < n
    · obtain ⟨o, ho⟩ : ∃ o, o = l[k]'(by rw [HN.out]; exact hlt) := ⟨_, rfl⟩
      obtain ⟨ab, ao, hAe, hab, hcells⟩ := HA.out.elem (k := k) (by rw [List.length_map, HN.out]; exact hlt)
      have HOW := Lib.hid (show op11W w o by rw [ho]; exact HL.out _ (List.getElem_mem _))
      have HOK := Lib.hid (show cdOk o.2.2.2.1 from (great_ok11 HGE.out (by rw [ho]; exact List.getElem_mem _) HOW.out).1)
      have hce : (l.map op11C)[k]'(by rw [List.length_map, HN.out]; exact hlt) = op11C o := by rw [List.getElem_map, ho]
      rw [hce] at hcells
      have HCELL := Lib.hid (show ∀ j v, (op11C o)[j]? = some v → wr.cell? ⟨ab, ao + 26 * k + j, none⟩ = some v from fun j v hj => ((below_of_none HW.out).cell (p := ⟨ab, _, none⟩) hab).trans (hcells j v hj))
      have HB1 := Lib.hid (CB.new wr 76 zeroO11)
      have HLP := Lib.hid (show (ceC o.2.2.2).length = 23 from cdC_length HOK.out.w.lk _ _)
      have HLO := Lib.hid (show (ceC p).length = 23 from cdC_length hpw.lk _ _)
      have TK0 := Lib.hid True.intro
      subst hAe
      clear hce hcells ho hab hS hR hB hpw hpr hgt hW

      go_wp2_with (first
        | (have hx := TK0; refine wpList_loadX (p := op11C o) aggO11 rfl (.tmp 31) rfl (b := ab) (off := ao + 26 * k) HCELL.out (op11C_len HOW.out) (by first | rfl | go_simp) ?_; clear hx TK0; have TK1 := Lib.hid True.intro)
        | (have hx := TK1; refine wpList_allocC zeroO11_run rfl rfl ?_; clear hx TK1; have TK2 := Lib.hid True.intro)
        | (have hx := TK2; refine wpList_storeC (off := 0) (p := op11C o) aggO11.hi rfl (.tmp 11) (.tmp 32) rfl (.agg (op11C o).toArray) rfl (op11C_one o) HB1.out (op11C_len HOW.out) (by rw [zeroO11_length]; omega) (by first | rfl | go_simp) (by first | rfl | go_simp) ?_; clear hx TK2; intro w2 h2 g2; rw [over_all _ _ (Nat.le_of_eq (by rw [zeroO11_length, op11C_len HOW.out]))] at h2; have O2 := Lib.hid h2; have q1 := h2.at_ (op11C_now o); have G2' := Lib.hid (none_new (grown_alloc wr (.cells zeroO11.toArray 76) none) g2 (Nat.le_refl _)); have S2 := Lib.hid (HS.out.none G2'.out); have C2 := Lib.hid (HB.out.kept G2'.out); have W2 := Lib.hid (grown_trans' HW.out G2'.out); have TK3 := Lib.hid True.intro; clear h2 g2)
        | (have hx := TK3; refine wpList_loadC (off := 3) (p := ceC o.2.2.2) aggC rfl (.tmp 34) rfl O2.out (op11C_p HOW.out) (by rw [op11C_len HOW.out]; omega) (by first | rfl | go_simp) ?_; clear hx TK3)
        | (go_at_call 35; refine (cput_at2 o.2.2.2.1 o.2.2.2.2.1 o.2.2.2.2.2 HOK.out _ w HM.out W2.out ((HOW.out.r.kept W2.out (Nat.le_refl _)).more W2.out.size) c b (fun a ha => by
             obtain ⟨h1, h2, h3⟩ := HOW.out.r
             by_cases hl : o.2.2.2.1.tk = []
             · exact .inl hl
             · rcases h3 with ⟨e, _⟩ | ⟨a', hA', hc'⟩
               · rw [e] at ha; cases ha
               · rw [hA'] at ha
                 injection ha with ha
                 subst ha
                 obtain ⟨u, t, hut⟩ := List.exists_cons_of_ne_nil hl
                 have h4 := (hc' 0 u (by rw [hut]; rfl)).1
                 have h5 := HCE.out.1
                 exact .inr (by omega)) M S2.out (by have := HR.out.1; omega) o.2.1 _ rfl).mono ?_; rintro x w4 ⟨M', m, rfl, hp, h4, g4, hnb⟩
           have HGT4 := Lib.hid (show ∀ q ∈ M', ∀ a, q.2.2.1 = some a → g0 < a.block from fun q hq a ha => (hnb q hq).elim (fun h => HGT.out q h a ha) (fun h => by have h1 := h a ha; have h2 := C2.out.lt; omega))
           have S4 := Lib.hid h4; have HP4 := Lib.hid hp; have W4 := Lib.hid (none_new W2.out g4 HCE.out.1); have C4 := Lib.hid (C2.out.grown g4 (by have := HCE.out.2; omega)); have O4 := Lib.hid (O2.out.grown g4 (by have := S2.out.lt; have := HS.out.lt; omega)); have q5 := O4.out.at_ (op11C_sv o); have TK4 := Lib.hid True.intro; clear h4 g4 hp q1 hnb)
        | (have hx := TK4; refine wpList_loadC (off := 3) (p := ceC o.2.2.2) aggC rfl (.tmp 48) rfl O4.out (op11C_p HOW.out) (by rw [op11C_len HOW.out]; omega) (by first | rfl | go_simp) ?_; clear hx TK4; have TK5 := Lib.hid True.intro)
        | (have hx := TK5; refine wpList_storeC (off := 0) (p := ceC o.2.2.2) aggC.hi rfl (.tmp 8) (.tmp 49) rfl (.agg (ceC o.2.2.2).toArray) rfl (cdC_one _ _ _) C4.out HLP.out (by rw [HLO.out]; omega) (by first | rfl | go_simp) (by first | rfl | go_simp) ?_; clear hx TK5; intro w6 h6 g6; rw [over_all _ _ (Nat.le_of_eq (by rw [HLO.out, HLP.out]))] at h6; have C6 := Lib.hid h6; have W6 := Lib.hid (none_new W4.out g6 HGW.out); have S6 := Lib.hid (S4.out.farD g6 (by have h1 := HCE.out; have h2 := HCB.out; omega) (by have h1 := HCE.out; omega) HGT4.out); clear h6 g6))
      · have HREL := Lib.hid (HR.out.this HS.out.2.1.1.1 HP4.out (by assumption) (by
          have h2 : (o.2.2.2.1.sv == s) = true := by assumption
          exact eq_of_beq h2))
        go_roundw
        case rel => exact ⟨k + 1, M', true, o.2.2.2, by omega, by go_num, rfl, S6.out, HREL.out, C6.out, HOW.out.p, HOW.out.r, HGT4.out, W6.out⟩
        case measure => simp [intOf]; omega
      · have HREL := Lib.hid (HR.out.other HS.out.2.1.1.1 HP4.out (.inr (fun e => by
          have h2 : (o.2.2.2.1.sv == s) = false := by assumption
          rw [e, beq_self_eq_true] at h2
          cases h2)))
        go_roundw
        case rel => exact ⟨k + 1, M', any, p, by omega, by go_num, rfl, S4.out, HREL.out, C4.out, HPW.out, HPR.out, HGT4.out, W4.out⟩
        case measure => simp [intOf]; omega
      · have HREL := Lib.hid (HR.out.other HS.out.2.1.1.1 HP4.out (.inl (by assumption)))
        go_roundw
        case rel => exact ⟨k + 1, M', any, p, by omega, by go_num, rfl, S4.out, HREL.out, C4.out, HPW.out, HPR.out, HGT4.out, W4.out⟩
        case measure => simp [intOf]; omega
    · have HSV := Lib.hid (show s.length ≤ 1000 by have := HSL.out; omega)
      have HML := Lib.hid (show M.length ≤ 8 from hR.1)
      clear hS hB hgt hW
      by_cases hf : ∃ q, (s, q) ∈ M ∧ decide (q.1.en < now) = false
      · obtain ⟨⟨x', A', c'⟩, hin, ho⟩ := hf
        obtain ⟨rfl, hx⟩ := hR.2 _ hin rfl
        have hx2 : x' = p.1 := hx
        subst hx2
        have HIN := Lib.hid hin
        have HOV := Lib.hid ho
        have HL2 := Lib.hid (fun A' c' => (cdC_length hpw.lk A' c' : (cdC p.1 A' c').length = 23))
        have d9 : decide (now ≤ p.1.en) = true := decide_eq_true (by have := of_decide_eq_false ho; simp at this; omega)
        have TK0 := Lib.hid True.intro
        clear hR hpw hpr hin ho hx
        go_wp2_with (first
          | (have hx := TK0; go_at_call 37; refine (cfind_in s HSV.out now _ c b M HS.out (p.1, A', c') HIN.out HOV.out).mono ?_; rintro r w3 ⟨A3, c3, rfl, hr3, -, g3⟩; have R3 := Lib.hid hr3; have S3 := Lib.hid (HS.out.none g3); have W3 := Lib.hid (grown_trans' HW.out g3); have B3 := Lib.hid (HB.out.kept g3); clear hr3 g3 hx TK0; have TK1 := Lib.hid True.intro)
          | (have hx := TK1; refine wpList_allocC zeroC_run rfl rfl ?_; clear hx TK1; have TK2 := Lib.hid True.intro)
          | (have hx := TK2; refine wpList_storeC (off := 0) (p := cdC p.1 A3 c3) aggC.hi rfl (.tmp 12) (.tmp 56) rfl (.agg (cdC p.1 A3 c3).toArray) rfl (cdC_one _ _ _) (CB.new w3 74 (ceC zeroCe)) (HL2.out A3 c3) (by rw [HLZ.out]; omega) (by first | rfl | go_simp) (by first | rfl | go_simp) ?_; clear hx TK2; intro w4 h4 g4; rw [over_all _ _ (Nat.le_of_eq (by rw [HLZ.out, HL2.out]))] at h4; have C4 := Lib.hid h4; have G4' := Lib.hid (none_new (grown_alloc w3 (.cells (ceC zeroCe).toArray 74) none) g4 (Nat.le_refl _)); have S4 := Lib.hid (S3.out.none G4'.out); have W4 := Lib.hid (grown_trans' W3.out G4'.out); have B4 := Lib.hid (B3.out.kept G4'.out); have R4 := Lib.hid (R3.out.row_ G4'.out); clear h4 g4)
          | (go_at_call 39; refine (servers_any _ _ _ _ S4.out (by have := HML.out; omega)).mono ?_; rintro x w5 ⟨v, ks, rfl, hk2, hv, g5⟩; obtain ⟨A5, c5, hv5, -⟩ := hv.shape
             obtain ⟨l5, hl5, hb5⟩ : ∃ l5, l5 = ks.length ∧ l5 ≤ 8 := ⟨_, rfl, by rw [hk2.1.length_eq]; unfold keysM; rw [List.length_map]; exact HML.out⟩
             rw [List.length_map, ← hl5] at hv5; subst hv5; have W5 := Lib.hid (grown_trans' W4.out g5); have C5 := Lib.hid (C4.out.kept g5); have B5 := Lib.hid (B4.out.kept g5); have R5 := Lib.hid (R4.out.row_ g5); have R6 := Lib.hid ((HPR.out.kept W5.out (Nat.le_refl _)).more W5.out.size); have d8 : decide ((l5 : Int) ≤ 8) = true := decide_eq_true (by omega); clear g5 hv hk2 hl5 hb5; have TK3 := Lib.hid True.intro)
          | (have hx := TK3; refine wpList_loadCg (off := 0) (p := cdC p.1 A3 c3) aggC (by first | rfl | go_simp) (.tmp 12) rfl C5.out (take_all (HL2.out A3 c3)) (by rw [HL2.out]; omega) (by first | rfl | go_simp) ?_; clear hx TK3; have TK4 := Lib.hid True.intro)
          | (have hx := TK4; refine wpList_loadCg (off := 0) (p := ceC p) aggC (by first | rfl | go_simp) (.tmp 8) rfl B5.out (take_all (HL2.out p.2.1 p.2.2)) (by rw [show (ceC p).length = 23 from HL2.out p.2.1 p.2.2]; omega) (by first | rfl | go_simp) ?_; clear hx TK4)
          | (go_at_call 40; refine (csame_any p.1 p.1 A3 p.2.1 c3 p.2.2 HPW.out HPW.out _ R5.out R6.out).mono ?_; rintro r w6 ⟨rfl, g6⟩; rw [sameC_refl]; have W6 := Lib.hid (grown_trans' W5.out g6); have q6 := (C5.out.kept g6).at_ (cdC_en HPW.out.lk A3 c3); clear g6))
        go_ret
        exact ⟨rfl, W6.out⟩
      · have HNF := Lib.hid (show ∀ q, (s, q) ∈ M → decide (q.1.en < now) = true from fun q hq => by
          cases hd : decide (q.1.en < now) with
          | true => rfl
          | false => exact absurd ⟨q, hq, hd⟩ hf)
        have TK0 := Lib.hid True.intro
        clear hR hpw hpr hf
        go_wp2_with (first
          | (have hx := TK0; go_at_call 37; refine (cfind_out s HSV.out now _ c b M HS.out HNF.out).mono ?_; rintro r w3 ⟨rfl, g3⟩; have S3 := Lib.hid (HS.out.none g3); have W3 := Lib.hid (grown_trans' HW.out g3); clear g3 hx TK0; have TK1 := Lib.hid True.intro)
          | (have hx := TK1; refine wpList_allocC zeroC_run rfl rfl ?_; clear hx TK1; have TK2 := Lib.hid True.intro)
          | (have hx := TK2; refine wpList_storeC (off := 0) (p := ceC zeroCe) aggC.hi rfl (.tmp 12) (.tmp 56) rfl (ceV zeroCe) rfl (cdC_one _ _ _) (CB.new w3 74 (ceC zeroCe)) HLZ.out (by rw [HLZ.out]; omega) (by first | rfl | go_simp) (by first | rfl | go_simp) ?_; clear hx TK2; intro w4 h4 g4; have G4' := Lib.hid (none_new (grown_alloc w3 (.cells (ceC zeroCe).toArray 74) none) g4 (Nat.le_refl _)); have S4 := Lib.hid (S3.out.none G4'.out); have W4 := Lib.hid (grown_trans' W3.out G4'.out); clear h4 g4)
          | (go_at_call 39; refine (servers_any _ _ _ _ S4.out (by have := HML.out; omega)).mono ?_; rintro x w5 ⟨v, ks, rfl, hk2, hv, g5⟩; obtain ⟨A5, c5, hv5, -⟩ := hv.shape
             obtain ⟨l5, hl5, hb5⟩ : ∃ l5, l5 = ks.length ∧ l5 ≤ 8 := ⟨_, rfl, by rw [hk2.1.length_eq]; unfold keysM; rw [List.length_map]; exact HML.out⟩
             rw [List.length_map, ← hl5] at hv5; subst hv5; have W5 := Lib.hid (grown_trans' W4.out g5); have d8 : decide ((l5 : Int) ≤ 8) = true := decide_eq_true (by omega); clear g5 hv hk2 hl5 hb5))
        go_ret
        exact ⟨rfl, W5.out⟩

theorem walk_CacheFresh (w : World) (hM : ML w) (A : Option Addr) (l : List Op11) (cap : Nat) (hA : SR w w.heap.size A 26 (l.map op11C) cap) (hl : ∀ o ∈ l, op11W w o) (sb : ByteArray) (_ : sb.size ≤ maxLen) (now : Int) (_ : (Lit.int .i64 now).wf = true) :
    Calls Tryd.prog 9 #[.slice A l.length cap, .string sb, .int .i64 now] w fun x w' => x = .returned (.bool true) ∧ Below w.heap.size w w' := by
  obtain ⟨s, hs⟩ : ∃ s : List UInt8, s = sb.data.toList := ⟨_, rfl⟩
  have hv : Value.string sb = strV s := by rw [hs]; rfl
  rw [hv]
  have go : Calls Tryd.prog 9 #[.slice A l.length cap, strV s, .int .i64 now] w fun x w' => x = .returned (.bool true) ∧ w.grownBy w' none := by
    by_cases hg : greatO11 l = true ∨ 100 < s.length
    · exact fresh_out w hM A l _ cap rfl hA hl s now hg
    · have hg1 : greatO11 l = false := by
        cases h : greatO11 l with
        | true => exact absurd (Or.inl h) hg
        | false => rfl
      have hs2 : ¬ 100 < s.length := fun h => hg (Or.inr h)
      exact fresh_in w hM A l _ cap rfl hA hl s now hg1 (by omega)
  exact go.mono fun x w' h => ⟨h.1, below_of_none h.2⟩
end Go.Proofs.YtejmbabeniekhaaDoor
