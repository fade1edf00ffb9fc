/- The document's Mkdir, Chmod, Give. -/
import Derived.Test.YtlkchajkhplapaaGreatDoorUaf
namespace Go.Proofs.YtlkchajkhplapaaGreatDoor
open Go.RowKit Go.Maps Go.WideMaps

/-- One cell of a row's element is set. -/
theorem rowX_cell {w w' : World} {base g cap sz k j : Nat} {e : TypeId} {Cs : List (List Value)} {cs c : List Value} {u : Value} (h : RowX w base e sz (.slice (some ⟨g, 0, none⟩) Cs.length cap) Cs) (hk : Cs[k]? = some c) (hj : j < sz) (hc : CB w g e cs) (hc' : CB w' g e (over cs (sz * k + j) [u])) :
    RowX w' base e sz (.slice (some ⟨g, 0, none⟩) Cs.length cap) (Cs.set k (c.set j u)) := by
  obtain ⟨hkl, hke⟩ := List.getElem?_eq_some_iff.1 hk
  have hcl : c.length = sz := h.2 c (List.mem_of_getElem? hk)
  obtain ⟨g', cap', cs', hv, -, hcb, hnc, hcz, htk, -⟩ := rowX_open h (by omega)
  injection hv with hv1 hv2 hv3
  injection hv1 with hv1
  injection hv1 with hv1
  subst hv1
  have hcs : cs' = cs := by
    have := hcb.symm.trans hc
    injection this with this
    injection this with this
    exact List.toArray_inj this
  subst hcs
  have hle : sz * k + sz ≤ Cs.length * sz := by rw [← Nat.mul_succ, Nat.mul_comm]; exact Nat.mul_le_mul_right _ hkl
  have hle2 : Cs.length * sz ≤ cs'.length := by rw [hcz]; exact Nat.mul_le_mul_right _ hnc
  have hat : (cs'.drop (sz * k)).take sz = c := by
    refine List.ext_getElem? fun i => ?_
    by_cases hi : i < sz
    · rw [List.getElem?_take, if_pos hi, List.getElem?_drop]
      have h1 := flatten_at Cs k c i h.2 hk hi
      rw [← htk, List.getElem?_take, if_pos (by omega)] at h1
      exact h1
    · rw [List.getElem?_take, if_neg hi, List.getElem?_eq_none (by omega)]
  have hov : over cs' (sz * k + j) [u] = over cs' (sz * k) (c.set j u) := by
    rw [over_one _ _ _ (by omega)]
    have hsp : cs' = cs'.take (sz * k) ++ (c ++ cs'.drop (sz * k + sz)) := by
      conv => lhs; rw [← List.take_append_drop (sz * k) cs']
      congr 1
      conv => lhs; rw [← List.take_append_drop sz (cs'.drop (sz * k))]
      rw [hat, List.drop_drop]
    unfold over
    rw [List.length_set, hcl]
    conv => lhs; rw [hsp]
    rw [List.set_append_right _ _ (by rw [List.length_take]; omega), List.length_take, Nat.min_eq_left (by omega), show sz * k + j - sz * k = j by omega, List.set_append_left _ _ (by omega), List.append_assoc]
  rw [hov] at hc'
  exact rowX_over h hkl (by rw [List.length_set, hcl]) hc hc'
theorem turn_set {N : List (List UInt8 × Nd)} {p : List UInt8} {n : Nd} {k : Nat} (hd : (keysM N).Nodup) (hx : N[k]? = some (p, n)) (f : Nd → Nd) : turn p f N = N.set k (p, f n) := by
  obtain ⟨hk, hke⟩ := List.getElem?_eq_some_iff.1 hx
  unfold turn
  refine List.ext_getElem (by simp) fun i h1 h2 => ?_
  rw [List.length_map] at h1
  rw [List.getElem_map, List.getElem_set]
  by_cases hi : k = i
  · subst hi
    rw [if_pos rfl, hke, if_pos rfl]
  · rw [if_neg hi, if_neg]
    intro e
    have hinj := (List.getElem_inj (h₀ := by unfold keysM; rw [List.length_map]; exact hk) (h₁ := by unfold keysM; rw [List.length_map]; exact h1) hd).1 (show (keysM N)[k]'(by unfold keysM; rw [List.length_map]; exact hk) = (keysM N)[i]'(by unfold keysM; rw [List.length_map]; exact h1) by simp only [keysM, List.getElem_map]; rw [hke, e])
    exact hi hinj
/-- A node of the document's Tree is turned where it lies. -/
theorem rt_turn {w w' : World} {rb g cap k j : Nat} {N : List (List UInt8 × Nd)} {p : List UInt8} {n : Nd} {cs : List Value} {u : Value} {l : List UInt8} (h : RT w rb (.slice (some ⟨g, 0, none⟩) N.length cap) N) (hc : CB w g 63 cs) (hx : N[k]? = some (p, n)) (f : Nd → Nd)
    (hf : ndC (p, f n) = (ndC (p, n)).set j u) (hj : j < 5) (hc' : CB w' g 63 (over cs (5 * k + j) [u])) (hg : w.grownBy w' (some g)) (hd : OwnB w 0 5 (f n).data l) (hl : l.length ≤ 1000000) (hm : (f n).mode < 64) :
    RT w' rb (.slice (some ⟨g, 0, none⟩) N.length cap) (turn p f N) := by
  have hk : ∀ dv l, OwnB w 0 5 dv l → OwnB w' 0 5 dv l := fun dv l ho => World.ownsRow.kept ho hg (.inr (ho.ne_cells hc (by decide)))
  have hne : rb ≠ g := by
    intro e
    subst e
    have h1 := h.top.symm.trans hc
    injection h1 with h1
    injection h1 with _ h1
    exact absurd h1 (by decide)
  have hrow := h.row
  rw [show N.length = (N.map ndC).length by rw [List.length_map]] at hrow
  have hr2 := rowX_cell (c := ndC (p, n)) (k := k) (j := j) (u := u) hrow (by rw [List.getElem?_map, hx]; rfl) hj hc hc'
  have hts := turn_set h.nodup hx f
  refine ⟨h.top.grown hg hne, ?_, fun x hx' => ?_, fun x hx' => ?_, ?_, by unfold turn; rw [List.length_map]; exact h.len⟩
  · rw [hts, List.map_set, hf, show N.length = (N.map ndC).length by rw [List.length_map]]
    exact hr2
  · obtain ⟨m, hm1, ⟨_, e⟩ | ⟨_, e⟩⟩ := mem_turn (show (x.1, x.2) ∈ _ from hx')
    · have : m = n := nodup_one h.nodup hm1 (by
        rename_i hq
        rw [hq]
        exact List.mem_of_getElem? hx)
      subst this
      rw [e]
      exact ⟨l, hk _ _ hd, hl⟩
    · rw [e]
      obtain ⟨l', a, b⟩ := h.dat _ hm1
      exact ⟨l', hk _ _ a, b⟩
  · obtain ⟨m, hm1, ⟨_, e⟩ | ⟨_, e⟩⟩ := mem_turn (show (x.1, x.2) ∈ _ from hx')
    · have : m = n := nodup_one h.nodup hm1 (by
        rename_i hq
        rw [hq]
        exact List.mem_of_getElem? hx)
      subst this
      rw [e]
      exact hm
    · rw [e]
      exact h.mode _ hm1
  · have hkt : (turn p f N).map nmT = N.map nmT := keys_turn p f N
    have hu := h.up
    unfold SortN at hu ⊢
    rw [hkt]
    exact hu
/-- What a call of the document's did to its Tree. -/
def ChR (w w' : World) (rb : Nat) (v : Value) : Prop := w.grownBy w' none ∨ w.grownBy w' (some rb) ∨ ∃ g, v.ownBlock = some g ∧ w.grownBy w' (some g)
def RDone (B : Nat) (w w' : World) (rb : Nat) (v : Value) (N : List (List UInt8 × Nd)) (A : Act8) : Prop :=
  ∃ v' N', RT w' rb v' N' ∧ DoneR B w' N N' A ∧ ChR w w' rb v ∧ (v'.ownBlock = v.ownBlock ∨ ∀ g, v'.ownBlock = some g → w.heap.size ≤ g)
def mkdirA (N : List (List UInt8 × Nd)) (who : ByteArray) (p : List UInt8) (m : Int) : Act8 := if mkdirC N who p m = 0 then .put p true who m.toNat [] else .stay
def writeA (N : List (List UInt8 × Nd)) (who : ByteArray) (p l : List UInt8) (m : Int) : Act8 := if writeC N who p l.length m = 0 then (match N.lookup p with | none => .put p false who m.toNat l | some _ => .data p l) else .stay
theorem RDone.stay {B : Nat} {w w' : World} {rb : Nat} {v : Value} {N : List (List UInt8 × Nd)} (h : RT w rb v N) (hg : w.grownBy w' none) : RDone B w w' rb v N .stay :=
  ⟨v, N, h.far hg (by simp) (by simp) (by simp), rfl, .inl hg, .inl rfl⟩
theorem RDone.back {B : Nat} {w w1 w' : World} {rb : Nat} {v : Value} {N : List (List UInt8 × Nd)} {A : Act8} (hg : w.grownBy w1 none) (h : RDone B w1 w' rb v N A) : RDone B w w' rb v N A := by
  obtain ⟨v', N', h1, h2, h3, h4⟩ := h
  refine ⟨v', N', h1, h2, ?_, h4.imp id fun h g e => Nat.le_trans hg.size (h g e)⟩
  rcases h3 with h3 | h3 | ⟨g, e, h3⟩
  · exact .inl (grown_trans' hg h3)
  · exact .inr (.inl (grown_trans' (grown_some hg _) h3))
  · exact .inr (.inr ⟨g, e, grown_trans' (grown_some hg _) h3⟩)
theorem RDone.put {B : Nat} {w w' : World} {rb : Nat} {v : Value} {N : List (List UInt8 × Nd)} {p : List UInt8} {dir : Bool} {owner : ByteArray} {mode : Nat} {dv : Value} {l : List UInt8} (h : RT w rb v N) (hl : N.lookup p = none) (hd : OwnB w B 5 dv l) (hP : PutRes w w' rb N (p, ⟨0, dir, owner, mode, dv⟩)) : RDone B w w' rb v N (.put p dir owner mode l) := by
  obtain ⟨v', N', h1, h2, h3, h4⟩ := hP
  exact ⟨v', N', h1, ⟨hl, dv, h2, World.ownsRow.kept hd h3 (.inr (hd.ne_cells h.top (by decide)))⟩, .inr (.inl h3), .inr h4⟩

set_option maxRecDepth 10000 in
set_option maxHeartbeats 4000000 in
theorem rmkdir_any (w : World) (rb : Nat) (v : Value) (N : List (List UInt8 × Nd)) (h : RT w rb v N) (ht : ∃ n, N.lookup [47] = some n) (who s : ByteArray) (p : List UInt8) (hp : s.data.toList = p) (hs : p.length ≤ 100000) (m : Int) :
    Calls Tryz.prog 24 #[.pointer (some ⟨rb, 0, none⟩), .string who, .string s, .int .i64 m] w fun e w' => e = .returned (.int .i64 (mkdirC N who p m)) ∧ RDone w.heap.size w w' rb v N (mkdirA N who p m) := by
  have CA := rcome_any w rb v N h who s p hp hs
  have HT := Lib.hid h
  obtain rfl := bytes_of hp
  obtain ⟨c, hcc⟩ : ∃ c, (comeR N who p).2 = c := ⟨_, rfl⟩
  rw [hcc] at CA
  have CC := Lib.hid CA
  clear CA
  by_cases h0 : c ≠ 0
  · have hR : mkdirC N who p m = c := by unfold mkdirC; rw [hcc, if_pos h0]
    have hcq : (c == 0) = false := beq_eq_false_iff_ne.2 h0
    have HA := Lib.hid (show mkdirA N who p m = .stay by unfold mkdirA; rw [hR, if_neg h0])
    rw [hR, HA.out]
    clear hcc hp hs hR h ht
    go_enter Tryz.func24, Tryz.ntmps24
    go_wp2_with (go_at_call 53; refine CC.out.mono ?_; rintro e w1 ⟨rfl, g1⟩; have G1 := Lib.hid g1; clear g1)
    go_ret
    exact ⟨rfl, RDone.stay HT.out G1.out⟩
  have h0' : c = 0 := Classical.byContradiction h0
  subst h0'
  by_cases h1 : 0 ≤ m ∧ m ≤ 63
  · have h1a : ¬ m < 0 := by omega
    have h1b : ¬ 63 < m := by omega
    cases hl : N.lookup p with
    | some n =>
      have hR : mkdirC N who p m = 111 := by unfold mkdirC; rw [hcc, if_neg (by decide), if_neg (by simpa using h1), hl]
      have HA := Lib.hid (show mkdirA N who p m = .stay by unfold mkdirA; rw [hR, if_neg (by decide)])
      obtain ⟨j, hj, hjx⟩ := look_some h.nodup hl
      have hji : (0 : Int) ≤ (j : Int) := by omega
      have HJ := Lib.hid hj
      rw [hR, HA.out]
      clear hcc hp hs hR hl h0 h1 h ht hj hjx
      go_enter Tryz.func24, Tryz.ntmps24
      go_wp2_with (first
        | (go_at_call 53; refine CC.out.mono ?_; rintro e w1 ⟨rfl, g1⟩; have G1 := Lib.hid g1; clear g1)
        | (go_at_call 54; refine (rat_yes _ rb v N (HT.out.far G1.out (by simp) (by simp) (by simp)) p j HJ.out).mono ?_; rintro e w2 ⟨rfl, rfl⟩))
      go_ret
      exact ⟨rfl, RDone.stay HT.out G1.out⟩
    | none =>
      have hR : mkdirC N who p m = addC N who p := by unfold mkdirC; rw [hcc, if_neg (by decide), if_neg (by simpa using h1), hl]
      obtain ⟨a, b, n, hab, hb, hpo, hn, -⟩ := parent_in hcc ht hl
      obtain ⟨x, rfl⟩ : ∃ x : Nat, m = (x : Int) := ⟨m.toNat, by omega⟩
      have hR2 := addC_of (M := N) (who := who) (p := p) hn
      have HL := Lib.hid hl
      have h64 := h.len
      cases hmy : mayOk who 2 n.owner n.mode with
      | false =>
        rw [hmy, if_pos rfl] at hR2
        have HA := Lib.hid (show mkdirA N who p x = .stay by unfold mkdirA; rw [hR, hR2, if_neg (by decide)])
        have PU := Lib.hid (fun W (hW : RT W rb v N) => rput_no W rb v N hW p a b hab hb (show p.length ≤ 1000000 by omega) ⟨0, true, who, x, .slice none 0 0⟩ n hn 114 (.inl ⟨hmy, rfl⟩))
        rw [hR, hR2, HA.out]
        clear hcc hp hs hR hR2 hl h0 h1 h ht hab hb hpo hn hmy
        go_enter Tryz.func24, Tryz.ntmps24
        go_wp2_with (first
          | (go_at_call 53; refine CC.out.mono ?_; rintro e w1 ⟨rfl, g1⟩; have G1 := Lib.hid g1; clear g1)
          | (go_at_call 54; refine (rat_no _ rb v N (HT.out.far G1.out (by simp) (by simp) (by simp)) p HL.out).mono ?_; rintro e w2 ⟨rfl, rfl⟩)
          | (go_at_call 62; refine (PU.out _ (HT.out.far G1.out (by simp) (by simp) (by simp))).mono ?_; rintro e w3 ⟨rfl, g3⟩; have G3 := Lib.hid (grown_trans' G1.out g3); clear g3))
        go_ret
        exact ⟨rfl, RDone.stay HT.out G3.out⟩
      | true =>
        rw [hmy, if_neg (by decide)] at hR2
        by_cases hf : 64 ≤ N.length
        · rw [if_pos hf] at hR2
          have HA := Lib.hid (show mkdirA N who p x = .stay by unfold mkdirA; rw [hR, hR2, if_neg (by decide)])
          have PU := Lib.hid (fun W (hW : RT W rb v N) => rput_no W rb v N hW p a b hab hb (show p.length ≤ 1000000 by omega) ⟨0, true, who, x, .slice none 0 0⟩ n hn 2 (.inr ⟨hmy, hf, rfl⟩))
          rw [hR, hR2, HA.out]
          clear hcc hp hs hR hR2 hl h0 h1 h ht hab hb hpo hn hmy hf
          go_enter Tryz.func24, Tryz.ntmps24
          go_wp2_with (first
            | (go_at_call 53; refine CC.out.mono ?_; rintro e w1 ⟨rfl, g1⟩; have G1 := Lib.hid g1; clear g1)
            | (go_at_call 54; refine (rat_no _ rb v N (HT.out.far G1.out (by simp) (by simp) (by simp)) p HL.out).mono ?_; rintro e w2 ⟨rfl, rfl⟩)
            | (go_at_call 62; refine (PU.out _ (HT.out.far G1.out (by simp) (by simp) (by simp))).mono ?_; rintro e w3 ⟨rfl, g3⟩; have G3 := Lib.hid (grown_trans' G1.out g3); clear g3))
          go_ret
          exact ⟨rfl, RDone.stay HT.out G3.out⟩
        · rw [if_neg hf] at hR2
          have HA := Lib.hid (show mkdirA N who p x = .put p true who x [] by unfold mkdirA; rw [hR, hR2, if_pos rfl]; rfl)
          have PU := Lib.hid (fun W (hW : RT W rb v N) => rput_ok W rb v N hW p a b hab hb (show p.length ≤ 1000000 by omega) ⟨0, true, who, x, .slice none 0 0⟩ n hn hmy (by omega) hl [] (OwnB.nil_ _ _ _) (by simp) (show x < 64 by omega))
          rw [hR, hR2, HA.out]
          clear hcc hp hs hR hR2 hl h0 h1 h ht hab hb hpo hn hmy hf
          go_enter Tryz.func24, Tryz.ntmps24
          go_wp2_with (first
            | (go_at_call 53; refine CC.out.mono ?_; rintro e w1 ⟨rfl, g1⟩; have G1 := Lib.hid g1; clear g1)
            | (go_at_call 54; refine (rat_no _ rb v N (HT.out.far G1.out (by simp) (by simp) (by simp)) p HL.out).mono ?_; rintro e w2 ⟨rfl, rfl⟩)
            | (go_at_call 62; refine (PU.out _ (HT.out.far G1.out (by simp) (by simp) (by simp))).mono ?_; rintro e w3 ⟨rfl, g3⟩; have G3 := Lib.hid g3; clear g3))
          go_ret
          exact ⟨rfl, RDone.back G1.out (RDone.put (HT.out.far G1.out (by simp) (by simp) (by simp)) HL.out (OwnB.nil_ _ _ _) G3.out)⟩
  · have hR : mkdirC N who p m = 1 := by unfold mkdirC; rw [hcc, if_neg (by decide), if_pos (by simpa using h1)]
    have HA := Lib.hid (show mkdirA N who p m = .stay by unfold mkdirA; rw [hR, if_neg (by decide)])
    rw [hR, HA.out]
    clear hcc hp hs hR h ht h0
    by_cases h1a : m < 0
    · clear h1
      go_enter Tryz.func24, Tryz.ntmps24
      go_wp2_with (go_at_call 53; refine CC.out.mono ?_; rintro e w1 ⟨rfl, g1⟩; have G1 := Lib.hid g1; clear g1)
      go_ret
      exact ⟨rfl, RDone.stay HT.out G1.out⟩
    · have h1b : 63 < m := by omega
      clear h1
      go_enter Tryz.func24, Tryz.ntmps24
      go_wp2_with (go_at_call 53; refine CC.out.mono ?_; rintro e w1 ⟨rfl, g1⟩; have G1 := Lib.hid g1; clear g1)
      go_ret
      exact ⟨rfl, RDone.stay HT.out G1.out⟩
end Go.Proofs.YtlkchajkhplapaaGreatDoor
