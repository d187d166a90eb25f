/- One block, one instruction, read. -/
import Derived.Test.YtamadegodenobaaDoorIrRow
namespace Go.Proofs.YtamadegodenobaaDoor
open Go.ChangeShapes Go.WideShapes Go.RowKit Go.Deep

theorem Blks.at {w : World} {A : Option Addr} {n cap : Nat} {bs : List (List Ir.In)} (h : Blks w (.slice A n cap) bs) {k : Nat} {b : List Ir.In} (hx : bs[k]? = some b) :
    ∃ bl off B cbp, A = some ⟨bl, off, none⟩ ∧ bl < w.heap.size ∧ w.cell? ⟨bl, off + k, none⟩ = some (.slice B b.length cbp) ∧ Insl w (.slice B b.length cbp) b := by
  obtain ⟨A', cap', e, -, h3⟩ := h
  simp at e
  obtain ⟨rfl, rfl, rfl⟩ := e
  obtain ⟨bl, off, cs, h4, h5, -, h7, v, h8, h9⟩ := h3 k b hx
  obtain ⟨B, cbp, rfl, -⟩ := id h9
  have := h7 0 (.slice B b.length cbp) (by rw [h8]; rfl)
  rw [Nat.mul_one, Nat.add_zero] at this
  exact ⟨bl, off, B, cbp, h4, h5, this, h9⟩

theorem Insl.at {w : World} {A : Option Addr} {n cap : Nat} {b : List Ir.In} (h : Insl w (.slice A n cap) b) {k : Nat} {x : Ir.In} (hx : b[k]? = some x) :
    ∃ bl off B cbp, A = some ⟨bl, off, none⟩ ∧ bl < w.heap.size ∧ (w.cell? ⟨bl, off + k * 6, none⟩ = some (.int .i64 x.op) ∧ w.cell? ⟨bl, off + k * 6 + 1, none⟩ = some (.int .i64 x.d) ∧ w.cell? ⟨bl, off + k * 6 + 2, none⟩ = some (.int .i64 x.a) ∧
      w.cell? ⟨bl, off + k * 6 + 3, none⟩ = some (.int .i64 x.b) ∧ w.cell? ⟨bl, off + k * 6 + 4, none⟩ = some (.string x.name) ∧ w.cell? ⟨bl, off + k * 6 + 5, none⟩ = some (.slice B x.args.length cbp)) ∧ InR w (InsC x (.slice B x.args.length cbp)).toList x := by
  obtain ⟨A', cap', e, -, h3⟩ := h
  simp at e
  obtain ⟨rfl, rfl, rfl⟩ := e
  obtain ⟨bl, off, cs, h4, h5, -, h7, h8⟩ := h3 k x hx
  have h8' := h8
  obtain ⟨sl, e, hn, -⟩ := h8
  obtain ⟨B, cbp, rfl, -⟩ := hn
  rw [e] at h7 h8'
  exact ⟨bl, off, B, cbp, h4, h5, ⟨h7 0 _ rfl, h7 1 _ rfl, h7 2 _ rfl, h7 3 _ rfl, h7 4 _ rfl, h7 5 _ rfl⟩, h8'⟩

theorem Blks.form {w : World} {v : Value} {bs : List (List Ir.In)} (h : Blks w v bs) : ∃ A cap, v = .slice A bs.length cap := by
  obtain ⟨A, cap, e, -⟩ := h
  exact ⟨A, cap, e⟩

end Go.Proofs.YtamadegodenobaaDoor
