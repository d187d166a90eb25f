/- Bytes in a row that a call has made, and the steps of writing a number's code into one: laws on memory and numbers alone. -/
import Derived.Test.YtimcepoleboldaaGreatDoorPackWorld
import Derived.Deep.AppendLies
import Derived.Lib.SlBytesRow
namespace Go.Proofs.YtimcepoleboldaaGreatDoor
open Go.RowKit

def Cells (l : List UInt8) : List Value := l.map fun b => Value.int .u8 (b.toNat : Int)

theorem cells_snoc (l : List UInt8) (b : UInt8) : Cells l ++ [.int .u8 (b.toNat : Int)] = Cells (l ++ [b]) := by simp [Cells]
theorem cells_length (l : List UInt8) : (Cells l).length = l.length := by simp [Cells]

theorem cells_one (l : List UInt8) : ∀ u ∈ Cells l, u.oneCell' = true := by
  intro v hv
  simp only [Cells, List.mem_map] at hv
  obtain ⟨b, _, rfl⟩ := hv
  rfl

theorem one_cell (x : Int) : ∀ u ∈ [Value.int .u8 x], u.oneCell' = true := by
  intro u hu; simp at hu; subst hu; rfl

theorem info_u8 : (Tryz.prog.info? 5).map (fun i => (i.zero, i.size, i.bytes)) = some (some (.int .u8 0), 1, 1) := by kernel_rfl

theorem room_max (k : Nat) (h : k ≤ 1099511627776) : k + 1 ≤ maxLen := by unfold maxLen; omega
theorem room_bytes (k : Nat) (h : k ≤ 1099511627776) : (k + 1) * 1 ≤ 140737488355328 := by omega
theorem base_le {B : Nat} {w wr : World} (h : Below B w wr) (hB : B ≤ w.heap.size) (o : Obj) : B ≤ (wr.alloc o).heap.size := by
  have h1 := h.size
  show B ≤ (wr.heap.push o).size
  rw [Array.size_push]; omega
theorem base_le_drew {B : Nat} {w wr : World} (h : Below B w wr) (hB : B ≤ w.heap.size) (o : Obj) : B ≤ (wr.alloc o).drew.heap.size := base_le h hB o
theorem below_up {B : Nat} {w wr w1 : World} {row : Option Nat} (h : Below B w wr) (hB : B ≤ w.heap.size) (o : Obj) (hg : (wr.alloc o).grownBy w1 row) (hr : ∀ k, row = some k → B ≤ k) : Below B w w1 :=
  (h.alloc (Nat.le_trans hB h.size) o).grown hg (base_le h hB o) hr
theorem below_up_drew {B : Nat} {w wr w1 : World} {row : Option Nat} (h : Below B w wr) (hB : B ≤ w.heap.size) (o : Obj) (hg : (wr.alloc o).drew.grownBy w1 row) (hr : ∀ k, row = some k → B ≤ k) : Below B w w1 :=
  ((h.alloc (Nat.le_trans hB h.size) o).drew).grown hg (base_le_drew h hB o) hr

/-- The string of a row of bytes. -/
theorem str_back (w : World) (base g n cap : Nat) (l : List UInt8) (hl : l.length = n) (h : w.ownsRow base 5 1 (.slice (some ⟨g, 0, none⟩) n cap) n (Cells l)) :
    (convert 37 9 (.slice (some ⟨g, 0, none⟩) n cap)).run Tryz.prog w = .ok (.string ⟨l.toArray⟩) w := by
  subst hl
  exact run_convert_bytes_back (P := Tryz.prog) w 37 9 5 ⟨g, 0, none⟩ cap l Tryz.underlying37 Tryz.underlying5 Tryz.underlying9 (fun j hj => h.cells (g := g) rfl j _ (by simp [Cells, List.getElem?_eq_getElem hj]))

theorem size_mk (l : List UInt8) : (⟨l.toArray⟩ : ByteArray).size = l.length := by simp [ByteArray.size]
theorem toList_mk (l : List UInt8) : (⟨l.toArray⟩ : ByteArray).data.toList = l := by simp
theorem toList_len (s : ByteArray) : s.data.toList.length = s.size := by simp
theorem mk_toList (s : ByteArray) : (⟨s.data.toList.toArray⟩ : ByteArray) = s := by simp

namespace Pk

/-- So far pre, m to come: together the code of n. -/
theorem step_code {pre : List UInt8} {m n : Nat} (h : pre ++ code m = code n) (hm : 128 ≤ m) : (pre ++ [UInt8.ofNat (m % 128 + 128)]) ++ code (m / 128) = code n := by
  rw [← h, code_ge m hm, List.append_assoc]; rfl

theorem last_code {pre : List UInt8} {m n : Nat} (h : pre ++ code m = code n) (hm : m < 128) : pre ++ [UInt8.ofNat m] = code n := by
  rw [← h, code_lt m hm]

theorem pre_lt {pre : List UInt8} {m n : Nat} (h : pre ++ code m = code n) (hn : n ≤ 72057594037927935) : pre.length + 1 ≤ 8 := by
  have h1 := code_len8 n hn
  have h2 := code_pos m
  rw [← h, List.length_append] at h1
  omega

theorem byte_more (m : Nat) : (((UInt8.ofNat (m % 128 + 128)).toNat : Nat) : Int) = (m : Int) % 128 + 128 := by
  rw [toNat_more]; omega
theorem byte_last (m : Nat) (h : m < 128) : (((UInt8.ofNat m).toNat : Nat) : Int) = (m : Int) := by
  rw [toNat_last m h]

end Pk

/-- One byte more. -/
theorem own_up {w1 : World} {base g1 cap1 : Nat} {pre : List UInt8} {x : Int} {b : UInt8} (hx : (b.toNat : Int) = x)
    (h : w1.ownsRow base 5 1 (.slice (some ⟨g1, 0, none⟩) (pre.length + 1) cap1) (pre.length + 1) (Cells pre ++ [.int .u8 x])) :
    w1.ownsRow base 5 1 (.slice (some ⟨g1, 0, none⟩) (pre.length + 1) cap1) (pre ++ [b]).length (Cells (pre ++ [b])) := by
  subst hx
  rw [cells_snoc] at h
  simpa using h

/-- The last byte, and the string of it all. -/
theorem str_last {w1 : World} {base g1 cap1 : Nat} {pre l : List UInt8} {x : Int} {b : UInt8} (hx : (b.toNat : Int) = x) (hl : pre ++ [b] = l)
    (h : w1.ownsRow base 5 1 (.slice (some ⟨g1, 0, none⟩) (pre.length + 1) cap1) (pre.length + 1) (Cells pre ++ [.int .u8 x])) :
    (convert 37 9 (.slice (some ⟨g1, 0, none⟩) (pre.length + 1) cap1)).run Tryz.prog w1 = .ok (.string ⟨l.toArray⟩) w1 := by
  subst hx hl
  rw [cells_snoc] at h
  exact str_back w1 base g1 (pre.length + 1) cap1 (pre ++ [b]) (by simp) h

end Go.Proofs.YtimcepoleboldaaGreatDoor
