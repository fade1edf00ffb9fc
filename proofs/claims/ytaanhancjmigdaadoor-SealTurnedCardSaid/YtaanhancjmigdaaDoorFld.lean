/- Slices of fields in memory, and the walks of Join of tlv and of the document's answer. -/
import Derived.Test.YtaanhancjmigdaaDoorNumW
import Derived.Deep.QuietTactic
namespace Go.Proofs.YtaanhancjmigdaaDoor
open Go.RowKit

/-- A field: its tag, its value's bytes. -/
abbrev Fd := Int × List UInt8

/-- The slice at A reads as the fields fs, each value a slice that reads as its bytes; all in blocks below B. -/
def RF (w : World) (B : Nat) (A : Option Addr) (fs : List Fd) (cap : Nat) : Prop :=
  fs.length ≤ cap ∧ cap ≤ maxLen ∧ ((A = none ∧ cap = 0) ∨ ∃ a, A = some a ∧ ∀ k f, fs[k]? = some f → a.block < B ∧
    w.cell? (a.add (2 * k)) = some (.int .i64 f.1) ∧ ∃ V c, w.cell? (a.add (2 * k + 1)) = some (.slice V f.2.length c) ∧ RB w B V f.2 c)

section
variable {w w' : World} {B B' cap : Nat} {A : Option Addr} {fs : List Fd}
theorem RF.nil_ (w : World) (B : Nat) : RF w B none [] 0 := ⟨Nat.le_refl _, Nat.zero_le _, .inl ⟨rfl, rfl⟩⟩
theorem RF.keep (h : RF w B A fs cap) (hk : ∀ a : Addr, a.block < B → w'.cell? a = w.cell? a) : RF w' B A fs cap :=
  ⟨h.1, h.2.1, h.2.2.imp id fun ⟨a, hA, hc⟩ => ⟨a, hA, fun k f hf => by
    obtain ⟨hb, h1, V, c, h2, h3⟩ := hc k f hf
    exact ⟨hb, (hk _ (by rw [add_block]; exact hb)).trans h1, V, c, (hk _ (by rw [add_block]; exact hb)).trans h2, h3.keep hk⟩⟩⟩
theorem RF.more (h : RF w B A fs cap) (hB : B ≤ B') : RF w B' A fs cap :=
  ⟨h.1, h.2.1, h.2.2.imp id fun ⟨a, hA, hc⟩ => ⟨a, hA, fun k f hf => by
    obtain ⟨hb, h1, V, c, h2, h3⟩ := hc k f hf
    exact ⟨Nat.lt_of_lt_of_le hb hB, h1, V, c, h2, h3.more hB⟩⟩⟩
theorem RF.below (h : RF w B A fs cap) (hb : Below B w w') : RF w' B A fs cap := h.keep fun _ hlt => hb.cell hlt
theorem RF.open_ (h : RF w B A fs cap) (hp : 0 < fs.length) :
    ∃ b off, A = some ⟨b, off, none⟩ ∧ b < B ∧ ∀ k f, fs[k]? = some f → w.cell? ⟨b, off + k * 2, none⟩ = some (.int .i64 f.1) ∧
      ∃ V c, w.cell? ⟨b, off + k * 2 + 1, none⟩ = some (.slice V f.2.length c) ∧ RB w B V f.2 c := by
  rcases h.2.2 with ⟨_, h0⟩ | ⟨⟨b, off, s⟩, hA, hc⟩
  · have := h.1; omega
  · have hb := (hc 0 _ (List.getElem?_eq_getElem hp)).1
    have h0 := (hc 0 _ (List.getElem?_eq_getElem hp)).2.1
    have hs : s = none := by simpa [Addr.add] using World.cell?_spot h0
    subst hs
    refine ⟨b, off, hA, hb, fun k f hf => ?_⟩
    have := (hc k f hf).2
    rw [Addr.add_lit, Addr.add_lit, Nat.mul_comm 2 k, ← Nat.add_assoc] at this
    exact this
end

def chk (f : Fd) : Int := if f.1 < 1 ∨ 255 < f.1 then 1 else if 65535 < f.2.length then 23 else 0
def fieldB (f : Fd) : List UInt8 := [UInt8.ofNat f.1.toNat, UInt8.ofNat (f.2.length / 256), UInt8.ofNat f.2.length] ++ f.2
/-- What Join answers: the bytes, or the number of the error. -/
def joinOf : List Fd → List UInt8 → List UInt8 × Int
  | [], acc => (acc, 0)
  | f :: fs, acc => if chk f = 0 then joinOf fs (acc ++ fieldB f) else ([], chk f)
/-- How many bytes fields take. -/
def tot (fs : List Fd) : Nat := (fs.map fun f => f.2.length + 3).sum

theorem fieldB_length (f : Fd) : (fieldB f).length = f.2.length + 3 := by simp [fieldB]

end Go.Proofs.YtaanhancjmigdaaDoor
