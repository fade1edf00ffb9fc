/- What a part says of authentication, and the walk of the document's Auth. -/
import Derived.Test.YtcfhpoigfkljpaaTnb
import Derived.Test.YtcfhpoigfkljpaaTmd
namespace Go.Proofs.Ytcfhpoigfkljpaa
open Go.ChangeShapes Go.WideShapes Go.RowKit
set_option linter.unusedVariables false

/-- What a part says: which of the three, whether it accepts, its body; whether it says anything. -/
def auF (k o : Int) (d : List UInt8) : Nat × Bool × List UInt8 × Bool :=
  if k ≠ 3 ∨ o ≠ 37 then (0, false, [], false)
  else if (d == [1, 2, 2]) = true then (1, false, [], true)
  else if [0, 2, 2, 0].isPrefixOf d = true then (0, false, d.drop 4, true)
  else if [2, 2, 2, 1].isPrefixOf d = true then (2, false, d.drop 4, true)
  else if [2, 2, 2, 2].isPrefixOf d = true then (2, true, d.drop 4, true)
  else (0, false, [], false)
theorem u8i {b : UInt8} {x : Int} (h : x = (b.toNat : Int)) (c : UInt8) : b = c ↔ x = (c.toNat : Int) := by
  rw [h, Int.ofNat_inj, UInt8.toNat_inj]
theorem au_k {k o : Int} (d : List UInt8) (h : k ≠ 3 ∨ o ≠ 37) : auF k o d = (0, false, [], false) := by rw [auF, if_pos h]
theorem au_short {k o : Int} (d : List UInt8) (h : d.length < 3) : auF k o d = (0, false, [], false) := by
  unfold auF
  match d, h with
  | [], _ => simp [List.isPrefixOf]
  | [a], _ => simp [List.isPrefixOf]
  | [a, b], _ => simp [List.isPrefixOf]
theorem au_12 (b0 b1 b2 : UInt8) (r : List UInt8) (h : b1 ≠ 2 ∨ b2 ≠ 2) : auF 3 37 (b0 :: b1 :: b2 :: r) = (0, false, [], false) := by
  unfold auF
  rcases h with h | h <;> simp [List.isPrefixOf, h, Ne.symm h]
theorem au_3 (b0 : UInt8) : auF 3 37 [b0, 2, 2] = if b0 = 1 then (1, false, [], true) else (0, false, [], false) := by
  unfold auF
  simp [List.isPrefixOf]
theorem au_4 (b0 b3 : UInt8) (r : List UInt8) : auF 3 37 (b0 :: 2 :: 2 :: b3 :: r) = if b0 = 0 ∧ b3 = 0 then (0, false, r, true) else if b0 = 2 ∧ b3 = 1 then (2, false, r, true) else if b0 = 2 ∧ b3 = 2 then (2, true, r, true) else (0, false, [], false) := by
  unfold auF
  by_cases h0 : b0 = 0
  · subst h0
    by_cases h3 : b3 = 0
    · subst h3; simp [List.isPrefixOf]
    · simp [List.isPrefixOf, h3, Ne.symm h3]
  · by_cases h2 : b0 = 2
    · subst h2
      by_cases h3 : b3 = 1
      · subst h3; simp [List.isPrefixOf]
      · by_cases h4 : b3 = 2
        · subst h4; simp [List.isPrefixOf]
        · simp [List.isPrefixOf, h3, Ne.symm h3, h4, Ne.symm h4]
    · simp [List.isPrefixOf, h0, Ne.symm h0, h2, Ne.symm h2]
theorem results_tmp4 {fn : Func} {t u v x : Tmp} (h : fn.results = #[.tmp t, .tmp u, .tmp v, .tmp x]) (tmps : Array Value) (P : Program) (w : World) :
    (results fn tmps).run P w = .ok (.tuple #[tmps.getD t undef, tmps.getD u undef, tmps.getD v undef, tmps.getD x undef]) w := by
  simp [results, h]
theorem aggU : ∀ w, (isAgg 5).run Try.prog w = .ok false w := fun w => by kernel_rfl

/-- What the document's Auth comes to. -/
def RaR (w w' : World) (x : Nat × Bool × List UInt8 × Bool) (e : Ending) : Prop := ∃ v, e = .returned (.tuple #[.int .i64 (x.1 : Int), .bool x.2.1, v, .bool x.2.2.2]) ∧ OwnB w' w.heap.size 5 v x.2.2.1 ∧ w.grownBy w' none
theorem keepC2 {w wd : World} {p : Addr} {v : Value} (g : w.grownBy wd none) (h : w.cell? p = some v) : wd.cell? p = some v :=
  (World.cell?_of_block (g.block p.block (World.block_lt_of_cell? w p h) (fun e => by cases e))).trans h
section
variable {w : World}
set_option maxRecDepth 20000 in
set_option maxHeartbeats 2000000 in
theorem ra_k (A : Option Addr) (k vb o : Int) (n cap : Nat) (hk : ¬ k = 3) :
    Calls Try.prog 18 #[.agg #[.int .i64 k, .int .i64 vb, .int .i64 o, .slice A n cap]] w fun e w' => RaR w w' (0, false, [], false) e := by
  go_enter Try.func18, Try.ntmps18
  go_wp2
  ((try simp only [Exit.inBlock, Exit.then]); refine bodyPost_ret (results_tmp4 rfl _ _ _) rfl ?_)
  refine ⟨_, rfl, ?_, ?_⟩
  · have h := OwnB.new0 (w.alloc (.cells #[.int .i64 k, .int .i64 vb, .int .i64 o, .slice A n cap] 24)) w.heap.size 5 (by rw [World.size_alloc]; omega)
    rw [World.size_alloc] at h
    exact h
  · exact grown_trans' (grown_alloc _ _ none) (grown_alloc _ _ none)
set_option maxRecDepth 20000 in
set_option maxHeartbeats 2000000 in
theorem ra_o (A : Option Addr) (vb o : Int) (n cap : Nat) (ho : ¬ o = 37) :
    Calls Try.prog 18 #[.agg #[.int .i64 3, .int .i64 vb, .int .i64 o, .slice A n cap]] w fun e w' => RaR w w' (0, false, [], false) e := by
  go_enter Try.func18, Try.ntmps18
  go_wp2
  ((try simp only [Exit.inBlock, Exit.then]); refine bodyPost_ret (results_tmp4 rfl _ _ _) rfl ?_)
  refine ⟨_, rfl, ?_, ?_⟩
  · have h := OwnB.new0 (w.alloc (.cells #[.int .i64 3, .int .i64 vb, .int .i64 o, .slice A n cap] 24)) w.heap.size 5 (by rw [World.size_alloc]; omega)
    rw [World.size_alloc] at h
    exact h
  · exact grown_trans' (grown_alloc _ _ none) (grown_alloc _ _ none)
set_option maxRecDepth 20000 in
set_option maxHeartbeats 2000000 in
theorem ra_n (A : Option Addr) (vb : Int) (n cap : Nat) (hn : n < 3) :
    Calls Try.prog 18 #[.agg #[.int .i64 3, .int .i64 vb, .int .i64 37, .slice A n cap]] w fun e w' => RaR w w' (0, false, [], false) e := by
  have h3 : (n : Int) < 3 := by omega
  clear hn
  go_enter Try.func18, Try.ntmps18
  go_wp2
  ((try simp only [Exit.inBlock, Exit.then]); refine bodyPost_ret (results_tmp4 rfl _ _ _) rfl ?_)
  refine ⟨_, rfl, ?_, ?_⟩
  · have h := OwnB.new0 (w.alloc (.cells #[.int .i64 3, .int .i64 vb, .int .i64 37, .slice A n cap] 24)) w.heap.size 5 (by rw [World.size_alloc]; omega)
    rw [World.size_alloc] at h
    exact h
  · exact grown_trans' (grown_alloc _ _ none) (grown_alloc _ _ none)
set_option maxRecDepth 20000 in
set_option maxHeartbeats 2000000 in
theorem ra_1 (b off : Nat) (vb x0 x1 x2 : Int) (n cap : Nat) (h1 : w.cell? ⟨b, off + 1, none⟩ = some (.int .u8 x1)) (hn : ¬ n < 3) (e1 : ¬ x1 = 2) :
    Calls Try.prog 18 #[.agg #[.int .i64 3, .int .i64 vb, .int .i64 37, .slice (some ⟨b, off, none⟩) n cap]] w fun e w' => RaR w w' (0, false, [], false) e := by
  have a1 := fun x => cell_alloc h1 x
  have n3 : ¬ (n : Int) < 3 := by omega
  have n1 : (1 : Int) < (n : Int) := by omega
  have n2 : (2 : Int) < (n : Int) := by omega
  have n0 : (0 : Int) < (n : Int) := by omega
  clear hn h1
  go_enter Try.func18, Try.ntmps18
  go_wp2
  ((try simp only [Exit.inBlock, Exit.then]); refine bodyPost_ret (results_tmp4 rfl _ _ _) rfl ?_)
  refine ⟨_, rfl, ?_, ?_⟩
  · have h := OwnB.new0 (w.alloc (.cells #[.int .i64 3, .int .i64 vb, .int .i64 37, .slice (some ⟨b, off, none⟩) n cap] 24)) w.heap.size 5 (by rw [World.size_alloc]; omega)
    rw [World.size_alloc] at h
    exact h
  · exact grown_trans' (grown_alloc _ _ none) (grown_alloc _ _ none)
set_option maxRecDepth 20000 in
set_option maxHeartbeats 2000000 in
theorem ra_2 (b off : Nat) (vb x0 x1 x2 : Int) (n cap : Nat) (h1 : w.cell? ⟨b, off + 1, none⟩ = some (.int .u8 x1)) (h2 : w.cell? ⟨b, off + 2, none⟩ = some (.int .u8 x2)) (hn : ¬ n < 3) (e1 : x1 = 2) (e2 : ¬ x2 = 2) :
    Calls Try.prog 18 #[.agg #[.int .i64 3, .int .i64 vb, .int .i64 37, .slice (some ⟨b, off, none⟩) n cap]] w fun e w' => RaR w w' (0, false, [], false) e := by
  subst e1
  have a1 := fun x => cell_alloc h1 x
  have a2 := fun x => cell_alloc h2 x
  have n3 : ¬ (n : Int) < 3 := by omega
  have n1 : (1 : Int) < (n : Int) := by omega
  have n2 : (2 : Int) < (n : Int) := by omega
  have n0 : (0 : Int) < (n : Int) := by omega
  clear hn h1 h2
  go_enter Try.func18, Try.ntmps18
  go_wp2
  ((try simp only [Exit.inBlock, Exit.then]); refine bodyPost_ret (results_tmp4 rfl _ _ _) rfl ?_)
  refine ⟨_, rfl, ?_, ?_⟩
  · have h := OwnB.new0 (w.alloc (.cells #[.int .i64 3, .int .i64 vb, .int .i64 37, .slice (some ⟨b, off, none⟩) n cap] 24)) w.heap.size 5 (by rw [World.size_alloc]; omega)
    rw [World.size_alloc] at h
    exact h
  · exact grown_trans' (grown_alloc _ _ none) (grown_alloc _ _ none)
set_option maxRecDepth 20000 in
set_option maxHeartbeats 2000000 in
theorem ra_send (b off : Nat) (vb x0 x1 x2 : Int) (n cap : Nat) (h0 : w.cell? ⟨b, off, none⟩ = some (.int .u8 x0)) (h1 : w.cell? ⟨b, off + 1, none⟩ = some (.int .u8 x1)) (h2 : w.cell? ⟨b, off + 2, none⟩ = some (.int .u8 x2)) (hn : n = 3) (e0 : x0 = 1) (e1 : x1 = 2) (e2 : x2 = 2) :
    Calls Try.prog 18 #[.agg #[.int .i64 3, .int .i64 vb, .int .i64 37, .slice (some ⟨b, off, none⟩) n cap]] w fun e w' => RaR w w' (1, false, [], true) e := by
  subst e1 e2
  subst e0 hn
  have a0 := fun x => cell_alloc h0 x
  have a1 := fun x => cell_alloc h1 x
  have a2 := fun x => cell_alloc h2 x
  clear h0 h1 h2
  go_enter Try.func18, Try.ntmps18
  go_wp2
  ((try simp only [Exit.inBlock, Exit.then]); refine bodyPost_ret (results_tmp4 rfl _ _ _) rfl ?_)
  refine ⟨_, rfl, ?_, ?_⟩
  · have h := OwnB.new0 (w.alloc (.cells #[.int .i64 3, .int .i64 vb, .int .i64 37, .slice (some ⟨b, off, none⟩) 3 cap] 24)) w.heap.size 5 (by rw [World.size_alloc]; omega)
    rw [World.size_alloc] at h
    exact h
  · exact grown_trans' (grown_alloc _ _ none) (grown_alloc _ _ none)
set_option maxRecDepth 20000 in
set_option maxHeartbeats 2000000 in
theorem ra_3 (b off : Nat) (vb x0 x1 x2 : Int) (n cap : Nat) (h0 : w.cell? ⟨b, off, none⟩ = some (.int .u8 x0)) (h1 : w.cell? ⟨b, off + 1, none⟩ = some (.int .u8 x1)) (h2 : w.cell? ⟨b, off + 2, none⟩ = some (.int .u8 x2)) (hn : n = 3) (e0 : ¬ x0 = 1) (e1 : x1 = 2) (e2 : x2 = 2) :
    Calls Try.prog 18 #[.agg #[.int .i64 3, .int .i64 vb, .int .i64 37, .slice (some ⟨b, off, none⟩) n cap]] w fun e w' => RaR w w' (0, false, [], false) e := by
  subst e1 e2
  subst hn
  have a0 := fun x => cell_alloc h0 x
  have a1 := fun x => cell_alloc h1 x
  have a2 := fun x => cell_alloc h2 x
  clear h0 h1 h2
  go_enter Try.func18, Try.ntmps18
  go_wp2
  ((try simp only [Exit.inBlock, Exit.then]); refine bodyPost_ret (results_tmp4 rfl _ _ _) rfl ?_)
  refine ⟨_, rfl, ?_, ?_⟩
  · have h := OwnB.new0 (w.alloc (.cells #[.int .i64 3, .int .i64 vb, .int .i64 37, .slice (some ⟨b, off, none⟩) 3 cap] 24)) w.heap.size 5 (by rw [World.size_alloc]; omega)
    rw [World.size_alloc] at h
    exact h
  · exact grown_trans' (grown_alloc _ _ none) (grown_alloc _ _ none)
set_option maxRecDepth 20000 in
set_option maxHeartbeats 2000000 in
theorem ra_41 (b off : Nat) (vb x0 x1 x2 x3 : Int) (n cap : Nat) (h0 : w.cell? ⟨b, off, none⟩ = some (.int .u8 x0)) (h1 : w.cell? ⟨b, off + 1, none⟩ = some (.int .u8 x1)) (h2 : w.cell? ⟨b, off + 2, none⟩ = some (.int .u8 x2)) (h3 : w.cell? ⟨b, off + 3, none⟩ = some (.int .u8 x3)) (hn : ¬ n < 4) (e1 : x1 = 2) (e2 : x2 = 2) (e0 : x0 = 1) :
    Calls Try.prog 18 #[.agg #[.int .i64 3, .int .i64 vb, .int .i64 37, .slice (some ⟨b, off, none⟩) n cap]] w fun e w' => RaR w w' (0, false, [], false) e := by
  subst e1 e2
  subst e0
  have a0 := fun x => cell_alloc h0 x
  have a1 := fun x => cell_alloc h1 x
  have a2 := fun x => cell_alloc h2 x
  have a3 := fun x => cell_alloc h3 x
  have n3 : ¬ (n : Int) < 3 := by omega
  have n1 : (1 : Int) < (n : Int) := by omega
  have n2 : (2 : Int) < (n : Int) := by omega
  have n0 : (0 : Int) < (n : Int) := by omega
  have n4 : ¬ (n : Int) < 4 := by omega
  have n33 : (3 : Int) < (n : Int) := by omega
  have ne3 : ¬ (n : Int) = 3 := by omega
  clear hn h0 h1 h2 h3
  go_enter Try.func18, Try.ntmps18
  go_wp2
  ((try simp only [Exit.inBlock, Exit.then]); refine bodyPost_ret (results_tmp4 rfl _ _ _) rfl ?_)
  refine ⟨_, rfl, ?_, ?_⟩
  · have h := OwnB.new0 (w.alloc (.cells #[.int .i64 3, .int .i64 vb, .int .i64 37, .slice (some ⟨b, off, none⟩) n cap] 24)) w.heap.size 5 (by rw [World.size_alloc]; omega)
    rw [World.size_alloc] at h
    exact h
  · exact grown_trans' (grown_alloc _ _ none) (grown_alloc _ _ none)
set_option maxRecDepth 20000 in
set_option maxHeartbeats 2000000 in
theorem ra_4g (b off : Nat) (vb x0 x1 x2 x3 : Int) (n cap : Nat) (h0 : w.cell? ⟨b, off, none⟩ = some (.int .u8 x0)) (h1 : w.cell? ⟨b, off + 1, none⟩ = some (.int .u8 x1)) (h2 : w.cell? ⟨b, off + 2, none⟩ = some (.int .u8 x2)) (h3 : w.cell? ⟨b, off + 3, none⟩ = some (.int .u8 x3)) (hn : ¬ n < 4) (e1 : x1 = 2) (e2 : x2 = 2) (e0 : 2 < x0) :
    Calls Try.prog 18 #[.agg #[.int .i64 3, .int .i64 vb, .int .i64 37, .slice (some ⟨b, off, none⟩) n cap]] w fun e w' => RaR w w' (0, false, [], false) e := by
  subst e1 e2
  have f1 : ¬ x0 = 1 := by omega
  have a0 := fun x => cell_alloc h0 x
  have a1 := fun x => cell_alloc h1 x
  have a2 := fun x => cell_alloc h2 x
  have a3 := fun x => cell_alloc h3 x
  have n3 : ¬ (n : Int) < 3 := by omega
  have n1 : (1 : Int) < (n : Int) := by omega
  have n2 : (2 : Int) < (n : Int) := by omega
  have n0 : (0 : Int) < (n : Int) := by omega
  have n4 : ¬ (n : Int) < 4 := by omega
  have n33 : (3 : Int) < (n : Int) := by omega
  have ne3 : ¬ (n : Int) = 3 := by omega
  clear hn h0 h1 h2 h3
  go_enter Try.func18, Try.ntmps18
  go_wp2
  ((try simp only [Exit.inBlock, Exit.then]); refine bodyPost_ret (results_tmp4 rfl _ _ _) rfl ?_)
  refine ⟨_, rfl, ?_, ?_⟩
  · have h := OwnB.new0 (w.alloc (.cells #[.int .i64 3, .int .i64 vb, .int .i64 37, .slice (some ⟨b, off, none⟩) n cap] 24)) w.heap.size 5 (by rw [World.size_alloc]; omega)
    rw [World.size_alloc] at h
    exact h
  · exact grown_trans' (grown_alloc _ _ none) (grown_alloc _ _ none)
set_option maxRecDepth 20000 in
set_option maxHeartbeats 2000000 in
theorem ra_40 (b off : Nat) (vb x0 x1 x2 x3 : Int) (n cap : Nat) (h0 : w.cell? ⟨b, off, none⟩ = some (.int .u8 x0)) (h1 : w.cell? ⟨b, off + 1, none⟩ = some (.int .u8 x1)) (h2 : w.cell? ⟨b, off + 2, none⟩ = some (.int .u8 x2)) (h3 : w.cell? ⟨b, off + 3, none⟩ = some (.int .u8 x3)) (hn : ¬ n < 4) (e1 : x1 = 2) (e2 : x2 = 2) (e0 : x0 = 0) (e3 : ¬ x3 = 0) :
    Calls Try.prog 18 #[.agg #[.int .i64 3, .int .i64 vb, .int .i64 37, .slice (some ⟨b, off, none⟩) n cap]] w fun e w' => RaR w w' (0, false, [], false) e := by
  subst e1 e2
  subst e0
  have a0 := fun x => cell_alloc h0 x
  have a1 := fun x => cell_alloc h1 x
  have a2 := fun x => cell_alloc h2 x
  have a3 := fun x => cell_alloc h3 x
  have n3 : ¬ (n : Int) < 3 := by omega
  have n1 : (1 : Int) < (n : Int) := by omega
  have n2 : (2 : Int) < (n : Int) := by omega
  have n0 : (0 : Int) < (n : Int) := by omega
  have n4 : ¬ (n : Int) < 4 := by omega
  have n33 : (3 : Int) < (n : Int) := by omega
  have ne3 : ¬ (n : Int) = 3 := by omega
  clear hn h0 h1 h2 h3
  go_enter Try.func18, Try.ntmps18
  go_wp2
  ((try simp only [Exit.inBlock, Exit.then]); refine bodyPost_ret (results_tmp4 rfl _ _ _) rfl ?_)
  refine ⟨_, rfl, ?_, ?_⟩
  · have h := OwnB.new0 (w.alloc (.cells #[.int .i64 3, .int .i64 vb, .int .i64 37, .slice (some ⟨b, off, none⟩) n cap] 24)) w.heap.size 5 (by rw [World.size_alloc]; omega)
    rw [World.size_alloc] at h
    exact h
  · exact grown_trans' (grown_alloc _ _ none) (grown_alloc _ _ none)
set_option maxRecDepth 20000 in
set_option maxHeartbeats 2000000 in
theorem ra_42 (b off : Nat) (vb x0 x1 x2 x3 : Int) (n cap : Nat) (h0 : w.cell? ⟨b, off, none⟩ = some (.int .u8 x0)) (h1 : w.cell? ⟨b, off + 1, none⟩ = some (.int .u8 x1)) (h2 : w.cell? ⟨b, off + 2, none⟩ = some (.int .u8 x2)) (h3 : w.cell? ⟨b, off + 3, none⟩ = some (.int .u8 x3)) (hn : ¬ n < 4) (e1 : x1 = 2) (e2 : x2 = 2) (e0 : x0 = 2) (e3 : ¬ x3 = 1) (e4 : ¬ x3 = 2) :
    Calls Try.prog 18 #[.agg #[.int .i64 3, .int .i64 vb, .int .i64 37, .slice (some ⟨b, off, none⟩) n cap]] w fun e w' => RaR w w' (0, false, [], false) e := by
  subst e1 e2
  subst e0
  have q1 : (x3 != 1) = true := by simpa using e3
  have q2 : (x3 != 2) = true := by simpa using e4
  clear e3 e4
  have a0 := fun x => cell_alloc h0 x
  have a1 := fun x => cell_alloc h1 x
  have a2 := fun x => cell_alloc h2 x
  have a3 := fun x => cell_alloc h3 x
  have n3 : ¬ (n : Int) < 3 := by omega
  have n1 : (1 : Int) < (n : Int) := by omega
  have n2 : (2 : Int) < (n : Int) := by omega
  have n0 : (0 : Int) < (n : Int) := by omega
  have n4 : ¬ (n : Int) < 4 := by omega
  have n33 : (3 : Int) < (n : Int) := by omega
  have ne3 : ¬ (n : Int) = 3 := by omega
  clear hn h0 h1 h2 h3
  go_enter Try.func18, Try.ntmps18
  go_wp2
  ((try simp only [Exit.inBlock, Exit.then]); refine bodyPost_ret (results_tmp4 rfl _ _ _) rfl ?_)
  refine ⟨_, rfl, ?_, ?_⟩
  · have h := OwnB.new0 (w.alloc (.cells #[.int .i64 3, .int .i64 vb, .int .i64 37, .slice (some ⟨b, off, none⟩) n cap] 24)) w.heap.size 5 (by rw [World.size_alloc]; omega)
    rw [World.size_alloc] at h
    exact h
  · exact grown_trans' (grown_alloc _ _ none) (grown_alloc _ _ none)
set_option maxRecDepth 20000 in
set_option maxHeartbeats 4000000 in
theorem ra_is (b off : Nat) (vb x0 x1 x2 x3 : Int) (r : List UInt8) (n cap : Nat) (h0 : w.cell? ⟨b, off, none⟩ = some (.int .u8 x0)) (h1 : w.cell? ⟨b, off + 1, none⟩ = some (.int .u8 x1)) (h2 : w.cell? ⟨b, off + 2, none⟩ = some (.int .u8 x2)) (h3 : w.cell? ⟨b, off + 3, none⟩ = some (.int .u8 x3)) (hn : ¬ n < 4) (e1 : x1 = 2) (e2 : x2 = 2) (e0 : x0 = 0) (e3 : x3 = 0) (hl : n ≤ 1000000) (hrl : r.length = n - 4) (A' : Option Addr) (hA : (if cap = 4 then (some ⟨b, off, none⟩ : Option Addr) else some ⟨b, off + 4, none⟩) = A') (hr : RB w w.heap.size A' r (cap - 4)) (hnc : n ≤ cap) (hcx : cap ≤ 9223372036854775807) :
    Calls Try.prog 18 #[.agg #[.int .i64 3, .int .i64 vb, .int .i64 37, .slice (some ⟨b, off, none⟩) n cap]] w fun e w' => RaR w w' (0, false, r, true) e := by
  subst e0 e1 e2 e3
  have HLL := Lib.hid (show r.length ≤ 1000000 by omega)
  have HRL := Lib.hid hrl
  have HR := Lib.hid hr
  have m0 : 0 < n := by omega
  have m3 : 3 < n := by omega
  have m4 : 4 ≤ n := by omega
  have mc : 4 ≤ cap := by omega
  have n4i : (4 : Int) ≤ (n : Int) := by omega
  have nci : (n : Int) ≤ (cap : Int) := by omega
  have c4i : (4 : Int) ≤ (cap : Int) := by omega
  have a0 := fun x => cell_alloc h0 x
  have a1 := fun x => cell_alloc h1 x
  have a2 := fun x => cell_alloc h2 x
  have a3 := fun x => cell_alloc h3 x
  have n3 : ¬ (n : Int) < 3 := by omega
  have n1 : (1 : Int) < (n : Int) := by omega
  have n2 : (2 : Int) < (n : Int) := by omega
  have n0 : (0 : Int) < (n : Int) := by omega
  have n4 : ¬ (n : Int) < 4 := by omega
  have n33 : (3 : Int) < (n : Int) := by omega
  have ne3 : ¬ (n : Int) = 3 := by omega
  clear hn hr hrl hl
  go_enter Try.func18, Try.ntmps18
  go_wp2
  obtain ⟨wd, hwd⟩ : ∃ x, (w.alloc (.cells #[.int .i64 3, .int .i64 vb, .int .i64 37, .slice (some ⟨b, off, none⟩) n cap] 24)).drew = x := ⟨_, rfl⟩
  have GD := Lib.hid (show w.grownBy wd none by rw [← hwd]; exact grown_drew (grown_alloc _ _ _))
  have hS0 : (fun x => x.cell? ⟨b, off, none⟩ = some (.int .u8 0) ∧ x.cell? ⟨b, off + 3, none⟩ = some (.int .u8 0)) wd := ⟨keepC2 GD.out h0, keepC2 GD.out h3⟩
  have RU := HR
  clear a0 a1 a2 a3 h0 h1 h2 h3
  refine helds_begin (fun x => x.cell? ⟨b, off, none⟩ = some (.int .u8 0) ∧ x.cell? ⟨b, off + 3, none⟩ = some (.int .u8 0)) (by kernel_rfl) (by rw [hwd]; exact hS0) (fun hSd => ?_)
  try rw [hwd]
  try rw [hwd] at hSd
  refine helds_take (i := 0) (d := some 91) (v := ?via_1) (by assumption) rfl rfl (by kernel_rfl) (fun _ _ _ h => h) ?yia_1 ?_; case yia_1 => (refine Or.inl ⟨rfl, fun wx hS => ?_⟩; go_simp; try with_reducible rfl)
  try simp only [Act.put, List.setIfInBounds_toArray, List.set_cons_zero, List.set_cons_succ]
  refine helds_take (i := 1) (d := some 92) (v := ?via_2) (by assumption) rfl rfl (by kernel_rfl) (fun _ _ _ h => h) ?yia_2 ?_; case yia_2 => (refine Or.inl ⟨rfl, fun wx hS => ?_⟩; go_simp; try with_reducible rfl)
  try simp only [Act.put, List.setIfInBounds_toArray, List.set_cons_zero, List.set_cons_succ]
  refine helds_take (i := 2) (d := some 93) (v := _) (by assumption) rfl rfl (by kernel_rfl) (fun _ _ _ h => h) (yields_cellX aggU (.tmp 92) rfl rfl (fun wx hx => hx.1) (by first | rfl | go_simp)) ?_
  try simp only [Act.put, List.setIfInBounds_toArray, List.set_cons_zero, List.set_cons_succ]
  refine helds_take (i := 3) (d := some 94) (v := ?via_4) (by assumption) rfl rfl (by kernel_rfl) (fun _ _ _ h => h) ?yia_4 ?_; case yia_4 => (refine Or.inl ⟨rfl, fun wx hS => ?_⟩; go_simp; try with_reducible rfl)
  try simp only [Act.put, List.setIfInBounds_toArray, List.set_cons_zero, List.set_cons_succ]
  refine helds_take (i := 4) (d := some 95) (v := ?via_5) (by assumption) rfl rfl (by kernel_rfl) (fun _ _ _ h => h) ?yia_5 ?_; case yia_5 => (refine Or.inl ⟨rfl, fun wx hS => ?_⟩; go_simp; try with_reducible rfl)
  try simp only [Act.put, List.setIfInBounds_toArray, List.set_cons_zero, List.set_cons_succ]
  refine helds_take (i := 5) (d := some 96) (v := ?via_6) (by assumption) rfl rfl (by kernel_rfl) (fun _ _ _ h => h) ?yia_6 ?_; case yia_6 => (refine Or.inl ⟨rfl, fun wx hS => ?_⟩; go_simp; try with_reducible rfl)
  try simp only [Act.put, List.setIfInBounds_toArray, List.set_cons_zero, List.set_cons_succ]
  refine helds_take (i := 6) (d := some 97) (v := _) (by assumption) rfl rfl (by kernel_rfl) (fun _ _ _ h => h) (yields_cellX aggU (.tmp 96) rfl rfl (fun wx hx => hx.1) (by first | rfl | go_simp)) ?_
  try simp only [Act.put, List.setIfInBounds_toArray, List.set_cons_zero, List.set_cons_succ]
  refine helds_take (i := 7) (d := some 98) (v := ?via_8) (by assumption) rfl rfl (by kernel_rfl) (fun _ _ _ h => h) ?yia_8 ?_; case yia_8 => (refine Or.inl ⟨rfl, fun wx hS => ?_⟩; go_simp; try with_reducible rfl)
  try simp only [Act.put, List.setIfInBounds_toArray, List.set_cons_zero, List.set_cons_succ]
  refine helds_take (i := 8) (d := some 99) (v := ?via_9) (by assumption) rfl rfl (by kernel_rfl) (fun _ _ _ h => h) ?yia_9 ?_; case yia_9 => (refine Or.inl ⟨rfl, fun wx hS => ?_⟩; go_simp; try with_reducible rfl)
  try simp only [Act.put, List.setIfInBounds_toArray, List.set_cons_zero, List.set_cons_succ]
  refine helds_skip (i := 9) (d := some 100) (by assumption) rfl rfl (by kernel_rfl) (fun _ _ _ h => h) rfl ?_
  try simp only [Act.put, List.setIfInBounds_toArray, List.set_cons_zero, List.set_cons_succ]
  refine helds_skip (i := 10) (d := some 101) (by assumption) rfl rfl (by kernel_rfl) (fun _ _ _ h => h) rfl ?_
  try simp only [Act.put, List.setIfInBounds_toArray, List.set_cons_zero, List.set_cons_succ]
  refine helds_skip (i := 11) (d := some 102) (by assumption) rfl rfl (by kernel_rfl) (fun _ _ _ h => h) rfl ?_
  try simp only [Act.put, List.setIfInBounds_toArray, List.set_cons_zero, List.set_cons_succ]
  refine helds_skip (i := 12) (d := some 103) (by assumption) rfl rfl (by kernel_rfl) (fun _ _ _ h => h) rfl ?_
  try simp only [Act.put, List.setIfInBounds_toArray, List.set_cons_zero, List.set_cons_succ]
  refine helds_take (i := 13) (d := some 104) (v := ?via_14) (by assumption) rfl rfl (by kernel_rfl) (fun _ _ _ h => h) ?yia_14 ?_; case yia_14 => (refine Or.inl ⟨rfl, fun wx hS => ?_⟩; go_simp; try with_reducible rfl)
  try simp only [Act.put, List.setIfInBounds_toArray, List.set_cons_zero, List.set_cons_succ]
  refine helds_take (i := 15) (d := some 106) (v := ?via_15) (by assumption) rfl rfl (by kernel_rfl) (fun _ _ _ h => h) ?yia_15 ?_; case yia_15 => (refine Or.inl ⟨rfl, fun wx hS => ?_⟩; go_simp; try with_reducible rfl)
  try simp only [Act.put, List.setIfInBounds_toArray, List.set_cons_zero, List.set_cons_succ]
  refine helds_take (i := 16) (d := some 107) (v := ?via_16) (by assumption) rfl rfl (by kernel_rfl) (fun _ _ _ h => h) ?yia_16 ?_; case yia_16 => (refine Or.inl ⟨rfl, fun wx hS => ?_⟩; go_simp; try with_reducible rfl)
  try simp only [Act.put, List.setIfInBounds_toArray, List.set_cons_zero, List.set_cons_succ]
  refine helds_one (i := 14) rfl (by kernel_rfl) rfl (fun K hK => ?_)
  refine wp_litN (d := some 105) (e := 5) 0 #[] rfl (by go_simp) ?_
  intro w3 hw3
  have N3 := Lib.hid (show wd.grownBy w3 none by rw [hw3]; exact grown_alloc _ _ _)
  have O3 := Lib.hid (show OwnB w3 w.heap.size 5 (.slice (some ⟨wd.heap.size, 0, none⟩) 0 0) [] by rw [hw3]; exact OwnB.new0 _ _ _ GD.out.size)
  have hS3 : (fun x => x.cell? ⟨b, off, none⟩ = some (.int .u8 0) ∧ x.cell? ⟨b, off + 3, none⟩ = some (.int .u8 0)) w3 := ⟨keepC2 N3.out hS0.1, keepC2 N3.out hS0.2⟩
  clear hw3
  refine hK.out _ _ (by assumption) (fun _ => ?_)
  clear hK K
  try simp only [Act.put, List.setIfInBounds_toArray, List.set_cons_zero, List.set_cons_succ]
  refine helds_one (i := 17) rfl (by kernel_rfl) rfl (fun K hK => ?_)
  refine wp_appB (d := some 108) byteT rfl (.tmp 105) (.tmp 107) rfl O3.out ((RU.out.below (below_of_none (grown_trans' GD.out N3.out))).more (grown_trans' GD.out N3.out).size) rfl (by rw [HRL.out]; first | rfl | go_simp) (by simp; have := HLL.out; omega) (grown_trans' GD.out N3.out).size ?_
  intro v4 w4 o4 g4 a4
  rw [List.nil_append] at o4
  have N4 := Lib.hid (grown_row (grown_trans' GD.out N3.out) g4 (fun z hz => by simp [Value.ownBlock] at hz; have := GD.out.size; omega))
  have O4 := Lib.hid o4
  have hS4 : (fun x => x.cell? ⟨b, off, none⟩ = some (.int .u8 0) ∧ x.cell? ⟨b, off + 3, none⟩ = some (.int .u8 0)) w4 := ⟨keepC2 (grown_row N3.out g4 (fun z hz => by simp [Value.ownBlock] at hz; omega)) hS0.1, keepC2 (grown_row N3.out g4 (fun z hz => by simp [Value.ownBlock] at hz; omega)) hS0.2⟩
  clear o4 g4 a4
  refine hK.out _ _ (by assumption) (fun _ => ?_)
  clear hK K
  try simp only [Act.put, List.setIfInBounds_toArray, List.set_cons_zero, List.set_cons_succ]
  refine helds_take (i := 18) (d := some 2) (v := ?via_17) (by assumption) rfl rfl (by kernel_rfl) (fun _ _ _ h => h) ?yia_17 ?_; case yia_17 => (refine Or.inl ⟨rfl, fun wx hS => ?_⟩; go_simp; try with_reducible rfl)
  try simp only [Act.put, List.setIfInBounds_toArray, List.set_cons_zero, List.set_cons_succ]
  refine helds_take (i := 19) (d := some 3) (v := ?via_18) (by assumption) rfl rfl (by kernel_rfl) (fun _ _ _ h => h) ?yia_18 ?_; case yia_18 => (refine Or.inl ⟨rfl, fun wx hS => ?_⟩; go_simp; try with_reducible rfl)
  try simp only [Act.put, List.setIfInBounds_toArray, List.set_cons_zero, List.set_cons_succ]
  refine helds_take (i := 20) (d := some 4) (v := ?via_19) (by assumption) rfl rfl (by kernel_rfl) (fun _ _ _ h => h) ?yia_19 ?_; case yia_19 => (refine Or.inl ⟨rfl, fun wx hS => ?_⟩; go_simp; try with_reducible rfl)
  try simp only [Act.put, List.setIfInBounds_toArray, List.set_cons_zero, List.set_cons_succ]
  refine helds_take (i := 21) (d := some 5) (v := ?via_20) (by assumption) rfl rfl (by kernel_rfl) (fun _ _ _ h => h) ?yia_20 ?_; case yia_20 => (refine Or.inl ⟨rfl, fun wx hS => ?_⟩; go_simp; try with_reducible rfl)
  try simp only [Act.put, List.setIfInBounds_toArray, List.set_cons_zero, List.set_cons_succ]
  refine held_end (by kernel_rfl) ?_ _
  clear hS0 hS3 hS4
  go_wp2
  ((try simp only [Exit.inBlock, Exit.then]); refine bodyPost_ret (results_tmp4 rfl _ _ _) rfl ?_)
  exact ⟨v4, rfl, O4.out, N4.out⟩
set_option maxRecDepth 20000 in
set_option maxHeartbeats 4000000 in
theorem ra_no (b off : Nat) (vb x0 x1 x2 x3 : Int) (r : List UInt8) (n cap : Nat) (h0 : w.cell? ⟨b, off, none⟩ = some (.int .u8 x0)) (h1 : w.cell? ⟨b, off + 1, none⟩ = some (.int .u8 x1)) (h2 : w.cell? ⟨b, off + 2, none⟩ = some (.int .u8 x2)) (h3 : w.cell? ⟨b, off + 3, none⟩ = some (.int .u8 x3)) (hn : ¬ n < 4) (e1 : x1 = 2) (e2 : x2 = 2) (e0 : x0 = 2) (e3 : x3 = 1) (hl : n ≤ 1000000) (hrl : r.length = n - 4) (A' : Option Addr) (hA : (if cap = 4 then (some ⟨b, off, none⟩ : Option Addr) else some ⟨b, off + 4, none⟩) = A') (hr : RB w w.heap.size A' r (cap - 4)) (hnc : n ≤ cap) (hcx : cap ≤ 9223372036854775807) :
    Calls Try.prog 18 #[.agg #[.int .i64 3, .int .i64 vb, .int .i64 37, .slice (some ⟨b, off, none⟩) n cap]] w fun e w' => RaR w w' (2, false, r, true) e := by
  subst e0 e1 e2 e3
  have HLL := Lib.hid (show r.length ≤ 1000000 by omega)
  have HRL := Lib.hid hrl
  have HR := Lib.hid hr
  have m0 : 0 < n := by omega
  have m3 : 3 < n := by omega
  have m4 : 4 ≤ n := by omega
  have mc : 4 ≤ cap := by omega
  have n4i : (4 : Int) ≤ (n : Int) := by omega
  have nci : (n : Int) ≤ (cap : Int) := by omega
  have c4i : (4 : Int) ≤ (cap : Int) := by omega
  have a0 := fun x => cell_alloc h0 x
  have a1 := fun x => cell_alloc h1 x
  have a2 := fun x => cell_alloc h2 x
  have a3 := fun x => cell_alloc h3 x
  have n3 : ¬ (n : Int) < 3 := by omega
  have n1 : (1 : Int) < (n : Int) := by omega
  have n2 : (2 : Int) < (n : Int) := by omega
  have n0 : (0 : Int) < (n : Int) := by omega
  have n4 : ¬ (n : Int) < 4 := by omega
  have n33 : (3 : Int) < (n : Int) := by omega
  have ne3 : ¬ (n : Int) = 3 := by omega
  clear hn hr hrl hl
  go_enter Try.func18, Try.ntmps18
  go_wp2
  obtain ⟨wd, hwd⟩ : ∃ x, (w.alloc (.cells #[.int .i64 3, .int .i64 vb, .int .i64 37, .slice (some ⟨b, off, none⟩) n cap] 24)).drew = x := ⟨_, rfl⟩
  have GD := Lib.hid (show w.grownBy wd none by rw [← hwd]; exact grown_drew (grown_alloc _ _ _))
  have hS0 : (fun x => x.cell? ⟨b, off, none⟩ = some (.int .u8 2) ∧ x.cell? ⟨b, off + 3, none⟩ = some (.int .u8 1)) wd := ⟨keepC2 GD.out h0, keepC2 GD.out h3⟩
  have RU := HR
  clear a0 a1 a2 a3 h0 h1 h2 h3
  refine helds_begin (fun x => x.cell? ⟨b, off, none⟩ = some (.int .u8 2) ∧ x.cell? ⟨b, off + 3, none⟩ = some (.int .u8 1)) (by kernel_rfl) (by rw [hwd]; exact hS0) (fun hSd => ?_)
  try rw [hwd]
  try rw [hwd] at hSd
  refine helds_take (i := 0) (d := some 91) (v := ?vna_1) (by assumption) rfl rfl (by kernel_rfl) (fun _ _ _ h => h) ?yna_1 ?_; case yna_1 => (refine Or.inl ⟨rfl, fun wx hS => ?_⟩; go_simp; try with_reducible rfl)
  try simp only [Act.put, List.setIfInBounds_toArray, List.set_cons_zero, List.set_cons_succ]
  refine helds_take (i := 1) (d := some 92) (v := ?vna_2) (by assumption) rfl rfl (by kernel_rfl) (fun _ _ _ h => h) ?yna_2 ?_; case yna_2 => (refine Or.inl ⟨rfl, fun wx hS => ?_⟩; go_simp; try with_reducible rfl)
  try simp only [Act.put, List.setIfInBounds_toArray, List.set_cons_zero, List.set_cons_succ]
  refine helds_take (i := 2) (d := some 93) (v := _) (by assumption) rfl rfl (by kernel_rfl) (fun _ _ _ h => h) (yields_cellX aggU (.tmp 92) rfl rfl (fun wx hx => hx.1) (by first | rfl | go_simp)) ?_
  try simp only [Act.put, List.setIfInBounds_toArray, List.set_cons_zero, List.set_cons_succ]
  refine helds_take (i := 3) (d := some 94) (v := ?vna_4) (by assumption) rfl rfl (by kernel_rfl) (fun _ _ _ h => h) ?yna_4 ?_; case yna_4 => (refine Or.inl ⟨rfl, fun wx hS => ?_⟩; go_simp; try with_reducible rfl)
  try simp only [Act.put, List.setIfInBounds_toArray, List.set_cons_zero, List.set_cons_succ]
  refine helds_take (i := 4) (d := some 95) (v := ?vna_5) (by assumption) rfl rfl (by kernel_rfl) (fun _ _ _ h => h) ?yna_5 ?_; case yna_5 => (refine Or.inl ⟨rfl, fun wx hS => ?_⟩; go_simp; try with_reducible rfl)
  try simp only [Act.put, List.setIfInBounds_toArray, List.set_cons_zero, List.set_cons_succ]
  refine helds_take (i := 5) (d := some 96) (v := ?vna_6) (by assumption) rfl rfl (by kernel_rfl) (fun _ _ _ h => h) ?yna_6 ?_; case yna_6 => (refine Or.inl ⟨rfl, fun wx hS => ?_⟩; go_simp; try with_reducible rfl)
  try simp only [Act.put, List.setIfInBounds_toArray, List.set_cons_zero, List.set_cons_succ]
  refine helds_take (i := 6) (d := some 97) (v := _) (by assumption) rfl rfl (by kernel_rfl) (fun _ _ _ h => h) (yields_cellX aggU (.tmp 96) rfl rfl (fun wx hx => hx.1) (by first | rfl | go_simp)) ?_
  try simp only [Act.put, List.setIfInBounds_toArray, List.set_cons_zero, List.set_cons_succ]
  refine helds_take (i := 7) (d := some 98) (v := ?vna_8) (by assumption) rfl rfl (by kernel_rfl) (fun _ _ _ h => h) ?yna_8 ?_; case yna_8 => (refine Or.inl ⟨rfl, fun wx hS => ?_⟩; go_simp; try with_reducible rfl)
  try simp only [Act.put, List.setIfInBounds_toArray, List.set_cons_zero, List.set_cons_succ]
  refine helds_take (i := 8) (d := some 99) (v := ?vna_9) (by assumption) rfl rfl (by kernel_rfl) (fun _ _ _ h => h) ?yna_9 ?_; case yna_9 => (refine Or.inl ⟨rfl, fun wx hS => ?_⟩; go_simp; try with_reducible rfl)
  try simp only [Act.put, List.setIfInBounds_toArray, List.set_cons_zero, List.set_cons_succ]
  refine helds_take (i := 9) (d := some 100) (v := ?vna_10) (by assumption) rfl rfl (by kernel_rfl) (fun _ _ _ h => h) ?yna_10 ?_; case yna_10 => (refine Or.inl ⟨rfl, fun wx hS => ?_⟩; go_simp; try with_reducible rfl)
  try simp only [Act.put, List.setIfInBounds_toArray, List.set_cons_zero, List.set_cons_succ]
  refine helds_take (i := 10) (d := some 101) (v := ?vna_11) (by assumption) rfl rfl (by kernel_rfl) (fun _ _ _ h => h) ?yna_11 ?_; case yna_11 => (refine Or.inl ⟨rfl, fun wx hS => ?_⟩; go_simp; try with_reducible rfl)
  try simp only [Act.put, List.setIfInBounds_toArray, List.set_cons_zero, List.set_cons_succ]
  refine helds_take (i := 11) (d := some 102) (v := _) (by assumption) rfl rfl (by kernel_rfl) (fun _ _ _ h => h) (yields_cellX aggU (.tmp 101) rfl rfl (fun wx hx => hx.2) (by first | rfl | go_simp)) ?_
  try simp only [Act.put, List.setIfInBounds_toArray, List.set_cons_zero, List.set_cons_succ]
  refine helds_take (i := 12) (d := some 103) (v := ?vna_13) (by assumption) rfl rfl (by kernel_rfl) (fun _ _ _ h => h) ?yna_13 ?_; case yna_13 => (refine Or.inl ⟨rfl, fun wx hS => ?_⟩; go_simp; try with_reducible rfl)
  try simp only [Act.put, List.setIfInBounds_toArray, List.set_cons_zero, List.set_cons_succ]
  refine helds_take (i := 13) (d := some 104) (v := ?vna_14) (by assumption) rfl rfl (by kernel_rfl) (fun _ _ _ h => h) ?yna_14 ?_; case yna_14 => (refine Or.inl ⟨rfl, fun wx hS => ?_⟩; go_simp; try with_reducible rfl)
  try simp only [Act.put, List.setIfInBounds_toArray, List.set_cons_zero, List.set_cons_succ]
  refine helds_take (i := 15) (d := some 106) (v := ?vna_15) (by assumption) rfl rfl (by kernel_rfl) (fun _ _ _ h => h) ?yna_15 ?_; case yna_15 => (refine Or.inl ⟨rfl, fun wx hS => ?_⟩; go_simp; try with_reducible rfl)
  try simp only [Act.put, List.setIfInBounds_toArray, List.set_cons_zero, List.set_cons_succ]
  refine helds_take (i := 16) (d := some 107) (v := ?vna_16) (by assumption) rfl rfl (by kernel_rfl) (fun _ _ _ h => h) ?yna_16 ?_; case yna_16 => (refine Or.inl ⟨rfl, fun wx hS => ?_⟩; go_simp; try with_reducible rfl)
  try simp only [Act.put, List.setIfInBounds_toArray, List.set_cons_zero, List.set_cons_succ]
  refine helds_one (i := 14) rfl (by kernel_rfl) rfl (fun K hK => ?_)
  refine wp_litN (d := some 105) (e := 5) 0 #[] rfl (by go_simp) ?_
  intro w3 hw3
  have N3 := Lib.hid (show wd.grownBy w3 none by rw [hw3]; exact grown_alloc _ _ _)
  have O3 := Lib.hid (show OwnB w3 w.heap.size 5 (.slice (some ⟨wd.heap.size, 0, none⟩) 0 0) [] by rw [hw3]; exact OwnB.new0 _ _ _ GD.out.size)
  have hS3 : (fun x => x.cell? ⟨b, off, none⟩ = some (.int .u8 2) ∧ x.cell? ⟨b, off + 3, none⟩ = some (.int .u8 1)) w3 := ⟨keepC2 N3.out hS0.1, keepC2 N3.out hS0.2⟩
  clear hw3
  refine hK.out _ _ (by assumption) (fun _ => ?_)
  clear hK K
  try simp only [Act.put, List.setIfInBounds_toArray, List.set_cons_zero, List.set_cons_succ]
  refine helds_one (i := 17) rfl (by kernel_rfl) rfl (fun K hK => ?_)
  refine wp_appB (d := some 108) byteT rfl (.tmp 105) (.tmp 107) rfl O3.out ((RU.out.below (below_of_none (grown_trans' GD.out N3.out))).more (grown_trans' GD.out N3.out).size) rfl (by rw [HRL.out]; first | rfl | go_simp) (by simp; have := HLL.out; omega) (grown_trans' GD.out N3.out).size ?_
  intro v4 w4 o4 g4 a4
  rw [List.nil_append] at o4
  have N4 := Lib.hid (grown_row (grown_trans' GD.out N3.out) g4 (fun z hz => by simp [Value.ownBlock] at hz; have := GD.out.size; omega))
  have O4 := Lib.hid o4
  have hS4 : (fun x => x.cell? ⟨b, off, none⟩ = some (.int .u8 2) ∧ x.cell? ⟨b, off + 3, none⟩ = some (.int .u8 1)) w4 := ⟨keepC2 (grown_row N3.out g4 (fun z hz => by simp [Value.ownBlock] at hz; omega)) hS0.1, keepC2 (grown_row N3.out g4 (fun z hz => by simp [Value.ownBlock] at hz; omega)) hS0.2⟩
  clear o4 g4 a4
  refine hK.out _ _ (by assumption) (fun _ => ?_)
  clear hK K
  try simp only [Act.put, List.setIfInBounds_toArray, List.set_cons_zero, List.set_cons_succ]
  refine helds_take (i := 18) (d := some 2) (v := ?vna_17) (by assumption) rfl rfl (by kernel_rfl) (fun _ _ _ h => h) ?yna_17 ?_; case yna_17 => (refine Or.inl ⟨rfl, fun wx hS => ?_⟩; go_simp; try with_reducible rfl)
  try simp only [Act.put, List.setIfInBounds_toArray, List.set_cons_zero, List.set_cons_succ]
  refine helds_take (i := 19) (d := some 3) (v := ?vna_18) (by assumption) rfl rfl (by kernel_rfl) (fun _ _ _ h => h) ?yna_18 ?_; case yna_18 => (refine Or.inl ⟨rfl, fun wx hS => ?_⟩; go_simp; try with_reducible rfl)
  try simp only [Act.put, List.setIfInBounds_toArray, List.set_cons_zero, List.set_cons_succ]
  refine helds_take (i := 20) (d := some 4) (v := ?vna_19) (by assumption) rfl rfl (by kernel_rfl) (fun _ _ _ h => h) ?yna_19 ?_; case yna_19 => (refine Or.inl ⟨rfl, fun wx hS => ?_⟩; go_simp; try with_reducible rfl)
  try simp only [Act.put, List.setIfInBounds_toArray, List.set_cons_zero, List.set_cons_succ]
  refine helds_take (i := 21) (d := some 5) (v := ?vna_20) (by assumption) rfl rfl (by kernel_rfl) (fun _ _ _ h => h) ?yna_20 ?_; case yna_20 => (refine Or.inl ⟨rfl, fun wx hS => ?_⟩; go_simp; try with_reducible rfl)
  try simp only [Act.put, List.setIfInBounds_toArray, List.set_cons_zero, List.set_cons_succ]
  refine held_end (by kernel_rfl) ?_ _
  clear hS0 hS3 hS4
  go_wp2
  ((try simp only [Exit.inBlock, Exit.then]); refine bodyPost_ret (results_tmp4 rfl _ _ _) rfl ?_)
  exact ⟨v4, rfl, O4.out, N4.out⟩
set_option maxRecDepth 20000 in
set_option maxHeartbeats 4000000 in
theorem ra_yes (b off : Nat) (vb x0 x1 x2 x3 : Int) (r : List UInt8) (n cap : Nat) (h0 : w.cell? ⟨b, off, none⟩ = some (.int .u8 x0)) (h1 : w.cell? ⟨b, off + 1, none⟩ = some (.int .u8 x1)) (h2 : w.cell? ⟨b, off + 2, none⟩ = some (.int .u8 x2)) (h3 : w.cell? ⟨b, off + 3, none⟩ = some (.int .u8 x3)) (hn : ¬ n < 4) (e1 : x1 = 2) (e2 : x2 = 2) (e0 : x0 = 2) (e3 : x3 = 2) (hl : n ≤ 1000000) (hrl : r.length = n - 4) (A' : Option Addr) (hA : (if cap = 4 then (some ⟨b, off, none⟩ : Option Addr) else some ⟨b, off + 4, none⟩) = A') (hr : RB w w.heap.size A' r (cap - 4)) (hnc : n ≤ cap) (hcx : cap ≤ 9223372036854775807) :
    Calls Try.prog 18 #[.agg #[.int .i64 3, .int .i64 vb, .int .i64 37, .slice (some ⟨b, off, none⟩) n cap]] w fun e w' => RaR w w' (2, true, r, true) e := by
  subst e0 e1 e2 e3
  have HLL := Lib.hid (show r.length ≤ 1000000 by omega)
  have HRL := Lib.hid hrl
  have HR := Lib.hid hr
  have m0 : 0 < n := by omega
  have m3 : 3 < n := by omega
  have m4 : 4 ≤ n := by omega
  have mc : 4 ≤ cap := by omega
  have n4i : (4 : Int) ≤ (n : Int) := by omega
  have nci : (n : Int) ≤ (cap : Int) := by omega
  have c4i : (4 : Int) ≤ (cap : Int) := by omega
  have a0 := fun x => cell_alloc h0 x
  have a1 := fun x => cell_alloc h1 x
  have a2 := fun x => cell_alloc h2 x
  have a3 := fun x => cell_alloc h3 x
  have n3 : ¬ (n : Int) < 3 := by omega
  have n1 : (1 : Int) < (n : Int) := by omega
  have n2 : (2 : Int) < (n : Int) := by omega
  have n0 : (0 : Int) < (n : Int) := by omega
  have n4 : ¬ (n : Int) < 4 := by omega
  have n33 : (3 : Int) < (n : Int) := by omega
  have ne3 : ¬ (n : Int) = 3 := by omega
  clear hn hr hrl hl
  go_enter Try.func18, Try.ntmps18
  go_wp2
  obtain ⟨wd, hwd⟩ : ∃ x, (w.alloc (.cells #[.int .i64 3, .int .i64 vb, .int .i64 37, .slice (some ⟨b, off, none⟩) n cap] 24)).drew = x := ⟨_, rfl⟩
  have GD := Lib.hid (show w.grownBy wd none by rw [← hwd]; exact grown_drew (grown_alloc _ _ _))
  have hS0 : (fun x => x.cell? ⟨b, off, none⟩ = some (.int .u8 2) ∧ x.cell? ⟨b, off + 3, none⟩ = some (.int .u8 2)) wd := ⟨keepC2 GD.out h0, keepC2 GD.out h3⟩
  have RU := HR
  clear a0 a1 a2 a3 h0 h1 h2 h3
  refine helds_begin (fun x => x.cell? ⟨b, off, none⟩ = some (.int .u8 2) ∧ x.cell? ⟨b, off + 3, none⟩ = some (.int .u8 2)) (by kernel_rfl) (by rw [hwd]; exact hS0) (fun hSd => ?_)
  try rw [hwd]
  try rw [hwd] at hSd
  refine helds_take (i := 0) (d := some 91) (v := ?vya_1) (by assumption) rfl rfl (by kernel_rfl) (fun _ _ _ h => h) ?yya_1 ?_; case yya_1 => (refine Or.inl ⟨rfl, fun wx hS => ?_⟩; go_simp; try with_reducible rfl)
  try simp only [Act.put, List.setIfInBounds_toArray, List.set_cons_zero, List.set_cons_succ]
  refine helds_take (i := 1) (d := some 92) (v := ?vya_2) (by assumption) rfl rfl (by kernel_rfl) (fun _ _ _ h => h) ?yya_2 ?_; case yya_2 => (refine Or.inl ⟨rfl, fun wx hS => ?_⟩; go_simp; try with_reducible rfl)
  try simp only [Act.put, List.setIfInBounds_toArray, List.set_cons_zero, List.set_cons_succ]
  refine helds_take (i := 2) (d := some 93) (v := _) (by assumption) rfl rfl (by kernel_rfl) (fun _ _ _ h => h) (yields_cellX aggU (.tmp 92) rfl rfl (fun wx hx => hx.1) (by first | rfl | go_simp)) ?_
  try simp only [Act.put, List.setIfInBounds_toArray, List.set_cons_zero, List.set_cons_succ]
  refine helds_take (i := 3) (d := some 94) (v := ?vya_4) (by assumption) rfl rfl (by kernel_rfl) (fun _ _ _ h => h) ?yya_4 ?_; case yya_4 => (refine Or.inl ⟨rfl, fun wx hS => ?_⟩; go_simp; try with_reducible rfl)
  try simp only [Act.put, List.setIfInBounds_toArray, List.set_cons_zero, List.set_cons_succ]
  refine helds_take (i := 4) (d := some 95) (v := ?vya_5) (by assumption) rfl rfl (by kernel_rfl) (fun _ _ _ h => h) ?yya_5 ?_; case yya_5 => (refine Or.inl ⟨rfl, fun wx hS => ?_⟩; go_simp; try with_reducible rfl)
  try simp only [Act.put, List.setIfInBounds_toArray, List.set_cons_zero, List.set_cons_succ]
  refine helds_take (i := 5) (d := some 96) (v := ?vya_6) (by assumption) rfl rfl (by kernel_rfl) (fun _ _ _ h => h) ?yya_6 ?_; case yya_6 => (refine Or.inl ⟨rfl, fun wx hS => ?_⟩; go_simp; try with_reducible rfl)
  try simp only [Act.put, List.setIfInBounds_toArray, List.set_cons_zero, List.set_cons_succ]
  refine helds_take (i := 6) (d := some 97) (v := _) (by assumption) rfl rfl (by kernel_rfl) (fun _ _ _ h => h) (yields_cellX aggU (.tmp 96) rfl rfl (fun wx hx => hx.1) (by first | rfl | go_simp)) ?_
  try simp only [Act.put, List.setIfInBounds_toArray, List.set_cons_zero, List.set_cons_succ]
  refine helds_take (i := 7) (d := some 98) (v := ?vya_8) (by assumption) rfl rfl (by kernel_rfl) (fun _ _ _ h => h) ?yya_8 ?_; case yya_8 => (refine Or.inl ⟨rfl, fun wx hS => ?_⟩; go_simp; try with_reducible rfl)
  try simp only [Act.put, List.setIfInBounds_toArray, List.set_cons_zero, List.set_cons_succ]
  refine helds_take (i := 8) (d := some 99) (v := ?vya_9) (by assumption) rfl rfl (by kernel_rfl) (fun _ _ _ h => h) ?yya_9 ?_; case yya_9 => (refine Or.inl ⟨rfl, fun wx hS => ?_⟩; go_simp; try with_reducible rfl)
  try simp only [Act.put, List.setIfInBounds_toArray, List.set_cons_zero, List.set_cons_succ]
  refine helds_take (i := 9) (d := some 100) (v := ?vya_10) (by assumption) rfl rfl (by kernel_rfl) (fun _ _ _ h => h) ?yya_10 ?_; case yya_10 => (refine Or.inl ⟨rfl, fun wx hS => ?_⟩; go_simp; try with_reducible rfl)
  try simp only [Act.put, List.setIfInBounds_toArray, List.set_cons_zero, List.set_cons_succ]
  refine helds_take (i := 10) (d := some 101) (v := ?vya_11) (by assumption) rfl rfl (by kernel_rfl) (fun _ _ _ h => h) ?yya_11 ?_; case yya_11 => (refine Or.inl ⟨rfl, fun wx hS => ?_⟩; go_simp; try with_reducible rfl)
  try simp only [Act.put, List.setIfInBounds_toArray, List.set_cons_zero, List.set_cons_succ]
  refine helds_take (i := 11) (d := some 102) (v := _) (by assumption) rfl rfl (by kernel_rfl) (fun _ _ _ h => h) (yields_cellX aggU (.tmp 101) rfl rfl (fun wx hx => hx.2) (by first | rfl | go_simp)) ?_
  try simp only [Act.put, List.setIfInBounds_toArray, List.set_cons_zero, List.set_cons_succ]
  refine helds_take (i := 12) (d := some 103) (v := ?vya_13) (by assumption) rfl rfl (by kernel_rfl) (fun _ _ _ h => h) ?yya_13 ?_; case yya_13 => (refine Or.inl ⟨rfl, fun wx hS => ?_⟩; go_simp; try with_reducible rfl)
  try simp only [Act.put, List.setIfInBounds_toArray, List.set_cons_zero, List.set_cons_succ]
  refine helds_take (i := 13) (d := some 104) (v := ?vya_14) (by assumption) rfl rfl (by kernel_rfl) (fun _ _ _ h => h) ?yya_14 ?_; case yya_14 => (refine Or.inl ⟨rfl, fun wx hS => ?_⟩; go_simp; try with_reducible rfl)
  try simp only [Act.put, List.setIfInBounds_toArray, List.set_cons_zero, List.set_cons_succ]
  refine helds_take (i := 15) (d := some 106) (v := ?vya_15) (by assumption) rfl rfl (by kernel_rfl) (fun _ _ _ h => h) ?yya_15 ?_; case yya_15 => (refine Or.inl ⟨rfl, fun wx hS => ?_⟩; go_simp; try with_reducible rfl)
  try simp only [Act.put, List.setIfInBounds_toArray, List.set_cons_zero, List.set_cons_succ]
  refine helds_take (i := 16) (d := some 107) (v := ?vya_16) (by assumption) rfl rfl (by kernel_rfl) (fun _ _ _ h => h) ?yya_16 ?_; case yya_16 => (refine Or.inl ⟨rfl, fun wx hS => ?_⟩; go_simp; try with_reducible rfl)
  try simp only [Act.put, List.setIfInBounds_toArray, List.set_cons_zero, List.set_cons_succ]
  refine helds_one (i := 14) rfl (by kernel_rfl) rfl (fun K hK => ?_)
  refine wp_litN (d := some 105) (e := 5) 0 #[] rfl (by go_simp) ?_
  intro w3 hw3
  have N3 := Lib.hid (show wd.grownBy w3 none by rw [hw3]; exact grown_alloc _ _ _)
  have O3 := Lib.hid (show OwnB w3 w.heap.size 5 (.slice (some ⟨wd.heap.size, 0, none⟩) 0 0) [] by rw [hw3]; exact OwnB.new0 _ _ _ GD.out.size)
  have hS3 : (fun x => x.cell? ⟨b, off, none⟩ = some (.int .u8 2) ∧ x.cell? ⟨b, off + 3, none⟩ = some (.int .u8 2)) w3 := ⟨keepC2 N3.out hS0.1, keepC2 N3.out hS0.2⟩
  clear hw3
  refine hK.out _ _ (by assumption) (fun _ => ?_)
  clear hK K
  try simp only [Act.put, List.setIfInBounds_toArray, List.set_cons_zero, List.set_cons_succ]
  refine helds_one (i := 17) rfl (by kernel_rfl) rfl (fun K hK => ?_)
  refine wp_appB (d := some 108) byteT rfl (.tmp 105) (.tmp 107) rfl O3.out ((RU.out.below (below_of_none (grown_trans' GD.out N3.out))).more (grown_trans' GD.out N3.out).size) rfl (by rw [HRL.out]; first | rfl | go_simp) (by simp; have := HLL.out; omega) (grown_trans' GD.out N3.out).size ?_
  intro v4 w4 o4 g4 a4
  rw [List.nil_append] at o4
  have N4 := Lib.hid (grown_row (grown_trans' GD.out N3.out) g4 (fun z hz => by simp [Value.ownBlock] at hz; have := GD.out.size; omega))
  have O4 := Lib.hid o4
  have hS4 : (fun x => x.cell? ⟨b, off, none⟩ = some (.int .u8 2) ∧ x.cell? ⟨b, off + 3, none⟩ = some (.int .u8 2)) w4 := ⟨keepC2 (grown_row N3.out g4 (fun z hz => by simp [Value.ownBlock] at hz; omega)) hS0.1, keepC2 (grown_row N3.out g4 (fun z hz => by simp [Value.ownBlock] at hz; omega)) hS0.2⟩
  clear o4 g4 a4
  refine hK.out _ _ (by assumption) (fun _ => ?_)
  clear hK K
  try simp only [Act.put, List.setIfInBounds_toArray, List.set_cons_zero, List.set_cons_succ]
  refine helds_take (i := 18) (d := some 2) (v := ?vya_17) (by assumption) rfl rfl (by kernel_rfl) (fun _ _ _ h => h) ?yya_17 ?_; case yya_17 => (refine Or.inl ⟨rfl, fun wx hS => ?_⟩; go_simp; try with_reducible rfl)
  try simp only [Act.put, List.setIfInBounds_toArray, List.set_cons_zero, List.set_cons_succ]
  refine helds_take (i := 19) (d := some 3) (v := ?vya_18) (by assumption) rfl rfl (by kernel_rfl) (fun _ _ _ h => h) ?yya_18 ?_; case yya_18 => (refine Or.inl ⟨rfl, fun wx hS => ?_⟩; go_simp; try with_reducible rfl)
  try simp only [Act.put, List.setIfInBounds_toArray, List.set_cons_zero, List.set_cons_succ]
  refine helds_take (i := 20) (d := some 4) (v := ?vya_19) (by assumption) rfl rfl (by kernel_rfl) (fun _ _ _ h => h) ?yya_19 ?_; case yya_19 => (refine Or.inl ⟨rfl, fun wx hS => ?_⟩; go_simp; try with_reducible rfl)
  try simp only [Act.put, List.setIfInBounds_toArray, List.set_cons_zero, List.set_cons_succ]
  refine helds_take (i := 21) (d := some 5) (v := ?vya_20) (by assumption) rfl rfl (by kernel_rfl) (fun _ _ _ h => h) ?yya_20 ?_; case yya_20 => (refine Or.inl ⟨rfl, fun wx hS => ?_⟩; go_simp; try with_reducible rfl)
  try simp only [Act.put, List.setIfInBounds_toArray, List.set_cons_zero, List.set_cons_succ]
  refine held_end (by kernel_rfl) ?_ _
  clear hS0 hS3 hS4
  go_wp2
  ((try simp only [Exit.inBlock, Exit.then]); refine bodyPost_ret (results_tmp4 rfl _ _ _) rfl ?_)
  exact ⟨v4, rfl, O4.out, N4.out⟩
theorem refAuth_any (A : Option Addr) (k vb o : Int) (d : List UInt8) (n cap : Nat) (hn : d.length = n) (hr : RB w w.heap.size A d cap) (hl : n ≤ 1000000) :
    Calls Try.prog 18 #[.agg #[.int .i64 k, .int .i64 vb, .int .i64 o, .slice A n cap]] w fun e w' => RaR w w' (auF k o d) e := by
  by_cases hk : k = 3
  · subst hk
    by_cases ho : o = 37
    · subst ho
      by_cases h3 : n < 3
      · rw [au_short d (by omega)]
        exact ra_n A vb n cap h3
      · obtain ⟨b, off, rfl, hb, hc⟩ := hr.open_ (by omega)
        match d, hn, hr, hc with
        | b0 :: b1 :: b2 :: r, hn, hr, hc =>
          have c0 := hc 0 (by simp)
          have c1 := hc 1 (by simp)
          have c2 := hc 2 (by simp)
          simp only [List.getElem_cons_zero, List.getElem_cons_succ, Nat.add_zero] at c0 c1 c2
          obtain ⟨x0, hx0⟩ : ∃ x, x = (b0.toNat : Int) := ⟨_, rfl⟩
          obtain ⟨x1, hx1⟩ : ∃ x, x = (b1.toNat : Int) := ⟨_, rfl⟩
          obtain ⟨x2, hx2⟩ : ∃ x, x = (b2.toNat : Int) := ⟨_, rfl⟩
          rw [← hx0] at c0
          rw [← hx1] at c1
          rw [← hx2] at c2
          by_cases e1 : x1 = 2
          · by_cases e2 : x2 = 2
            · obtain rfl : b1 = 2 := (u8i hx1 2).2 (by rw [e1]; rfl)
              obtain rfl : b2 = 2 := (u8i hx2 2).2 (by rw [e2]; rfl)
              match r, hn, hr, hc with
              | [], hn, hr, hc =>
                have hn3 : n = 3 := by rw [← hn]; rfl
                rw [au_3]
                by_cases e0 : x0 = 1
                · rw [if_pos ((u8i hx0 1).2 (by rw [e0]; rfl))]
                  exact ra_send b off vb x0 x1 x2 n cap c0 c1 c2 hn3 e0 e1 e2
                · rw [if_neg (fun e => e0 (by rw [(u8i hx0 1).1 e]; rfl))]
                  exact ra_3 b off vb x0 x1 x2 n cap c0 c1 c2 hn3 e0 e1 e2
              | b3 :: r, hn, hr, hc =>
                have c3 := hc 3 (by simp)
                simp only [List.getElem_cons_zero, List.getElem_cons_succ] at c3
                obtain ⟨x3, hx3⟩ : ∃ x, x = (b3.toNat : Int) := ⟨_, rfl⟩
                rw [← hx3] at c3
                have hn4 : ¬ n < 4 := by rw [← hn]; simp
                have hrl : r.length = n - 4 := by rw [← hn]; simp
                have hcut := hr.cut (k := 4) (by simp)
                have hnc : n ≤ cap := by rw [← hn]; exact hr.1
                have hcx : cap ≤ 9223372036854775807 := hr.2.1
                rw [show (b0 :: 2 :: 2 :: b3 :: r).drop 4 = r from rfl, show (some (⟨b, off, none⟩ : Addr)).map (·.add 4) = some ⟨b, off + 4, none⟩ from by rw [Option.map_some, Addr.add_lit]] at hcut
                have z0 := u8i hx0
                have z3 := u8i hx3
                rw [au_4]
                by_cases e01 : x0 = 1
                · rw [if_neg (fun e => by have := (z0 0).1 e.1; rw [e01] at this; revert this; decide), if_neg (fun e => by have := (z0 2).1 e.1; rw [e01] at this; revert this; decide), if_neg (fun e => by have := (z0 2).1 e.1; rw [e01] at this; revert this; decide)]
                  exact ra_41 b off vb x0 x1 x2 x3 n cap c0 c1 c2 c3 hn4 e1 e2 e01
                by_cases e02 : 2 < x0
                · rw [if_neg (fun e => by have h := (z0 0).1 e.1; simp at h; omega), if_neg (fun e => by have h := (z0 2).1 e.1; simp at h; omega), if_neg (fun e => by have h := (z0 2).1 e.1; simp at h; omega)]
                  exact ra_4g b off vb x0 x1 x2 x3 n cap c0 c1 c2 c3 hn4 e1 e2 e02
                have hx00 : 0 ≤ x0 := by omega
                by_cases e00 : x0 = 0
                · have g0 : b0 = 0 := (z0 0).2 (by rw [e00]; rfl)
                  by_cases e30 : x3 = 0
                  · rw [if_pos ⟨g0, (z3 0).2 (by rw [e30]; rfl)⟩]
                    exact ra_is b off vb x0 x1 x2 x3 r n cap c0 c1 c2 c3 hn4 e1 e2 e00 e30 hl hrl _ rfl hcut hnc hcx
                  · rw [if_neg (fun e => e30 (by rw [(z3 0).1 e.2]; rfl)), if_neg (fun e => by have h := (z0 2).1 e.1; simp at h; omega), if_neg (fun e => by have h := (z0 2).1 e.1; simp at h; omega)]
                    exact ra_40 b off vb x0 x1 x2 x3 n cap c0 c1 c2 c3 hn4 e1 e2 e00 e30
                · have e22 : x0 = 2 := by omega
                  have g2 : b0 = 2 := (z0 2).2 (by rw [e22]; rfl)
                  rw [if_neg (fun e => by have h := (z0 0).1 e.1; simp at h; omega)]
                  by_cases e31 : x3 = 1
                  · rw [if_pos ⟨g2, (z3 1).2 (by rw [e31]; rfl)⟩]
                    exact ra_no b off vb x0 x1 x2 x3 r n cap c0 c1 c2 c3 hn4 e1 e2 e22 e31 hl hrl _ rfl hcut hnc hcx
                  · rw [if_neg (fun e => e31 (by rw [(z3 1).1 e.2]; rfl))]
                    by_cases e32 : x3 = 2
                    · rw [if_pos ⟨g2, (z3 2).2 (by rw [e32]; rfl)⟩]
                      exact ra_yes b off vb x0 x1 x2 x3 r n cap c0 c1 c2 c3 hn4 e1 e2 e22 e32 hl hrl _ rfl hcut hnc hcx
                    · rw [if_neg (fun e => e32 (by rw [(z3 2).1 e.2]; rfl))]
                      exact ra_42 b off vb x0 x1 x2 x3 n cap c0 c1 c2 c3 hn4 e1 e2 e22 e31 e32
            · rw [au_12 _ _ _ _ (.inr (fun e => e2 (by rw [(u8i hx2 2).1 e]; rfl)))]
              exact ra_2 b off vb x0 x1 x2 n cap c1 c2 h3 e1 e2
          · rw [au_12 _ _ _ _ (.inl (fun e => e1 (by rw [(u8i hx1 2).1 e]; rfl)))]
            exact ra_1 b off vb x0 x1 x2 n cap c1 h3 e1
        | [], hn, _, _ => simp at hn; omega
        | [_], hn, _, _ => simp at hn; omega
        | [_, _], hn, _, _ => simp at hn; omega
    · rw [au_k d (.inr ho)]
      exact ra_o A vb o n cap ho
  · rw [au_k d (.inl hk)]
    exact ra_k A k vb o n cap hk
end
end Go.Proofs.Ytcfhpoigfkljpaa
