/- KeepOrder: what its loop knows. -/
import Derived.Test.YtimcepoleboldaaGreatDoorKpKeepIdle
import Derived.Test.YtimcepoleboldaaGreatDoorKpKeepOrderP
import Derived.Test.YtimcepoleboldaaGreatDoorKeepAll
import Derived.Test.YtimcepoleboldaaGreatDoorStrs
namespace Go.Proofs.YtimcepoleboldaaGreatDoor
open Go.RowKit Go.Deep

theorem Chg.own {K : Keep} {T : Obj → Bool} {B : Nat} {a b c : World} {row : Option Nat} (h : @Ch K T B a b) (hg : b.grownBy c row) (hr : ∀ g, row = some g → a.heap.size ≤ g) : @Ch K T B a c :=
  ⟨hg.os.trans h.os, hg.tape.trans h.tape, hg.output.trans h.output, Nat.le_trans h.size hg.size, fun i hi hT => (hg.block i (by have := h.size; omega) (fun e => by have := hr i e.symm; omega)).trans (h.all i hi hT)⟩

/-- Open of a new disk; the map is newer than the disk. -/
def ShopOpenedAt [R : Rows] (K : Keep) (B g : Nat) (room : Int) (m : Kp.Mp) (st : Dk.St) (e0 : Int) (w : World) (e : Ending) (w' : World) : Prop :=
  ∃ (K' : Keep) (s mb n : Nat) (st' : Dk.St), e = .returned (.tuple #[.pointer (some ⟨s, 0, none⟩), .int .i64 0]) ∧ (∀ i, K.p i → K'.p i) ∧ Shop K' w' B g s mb n room m st' (e0 + 1) ∧ n ≤ 12192 ∧ @Ch K Td B w w' ∧ st'.many ≤ st.many + 2 ∧ w.heap.size ≤ mb
theorem shop_new_at {w : World} {B g : Nat} {room : Int} (hd : @Dsk noKeep w B g Dk.St.new) (h0 : 0 ≤ room) (h1 : room ≤ 1048576) :
    Calls Tryz.prog 9 #[.pointer (some ⟨g, 0, none⟩), .int .i64 room] w (ShopOpenedAt noKeep B g room [] Dk.St.new 0 w) := by
  have hg := Lg.Good.zero
  obtain ⟨-, -, h3⟩ := Lg.open_run Lg.Still.new hg (by show (0 : Int) < _; omega)
  have h4 := Lg.many_open Dk.St.new
  have h5 := Kp.openS_run Lg.Still.new hg (by show (0 : Int) < _; omega) room
  have h6 := Kp.openK_in (st := Dk.St.new) h0 h1
  refine (open_store noKeep B g Dk.St.new room w hd (by show 0 ≤ _; omega)).mono ?_
  rintro e w' ⟨hch, hcase⟩
  rw [h6, h5] at hcase
  rcases h3 with ⟨g1, _, g3, g4, g5⟩ | ⟨_, g2, g3, _⟩
  · rcases hcase with ⟨_, K', s, q, tb, mb, n, rfl, hK, hd', hk, hn, hmb⟩ | ⟨hne, _⟩
    · exact ⟨K', s, mb, n, _, rfl, hK, ⟨q, tb, _, _, _, _, rfl, hd', hk, g3, g4, rfl, by rw [g5]; rfl⟩, hn, hch, h4, hmb⟩
    · exact absurd g1 hne
  · have : Dk.St.new.cuts = 0 := rfl
    omega

/-- The law's keys, in their row. -/
def KeysAt (w : World) (kb : Nat) : Prop := Blk w kb 9 #[.string (Kp.okey 0), .string (Kp.okey 1), .string (Kp.okey 2), .string (Kp.okey 3), .string (Kp.okey 4), .string (Kp.okey 5), .string (Kp.okey 6), .string (Kp.okey 7), .string (Kp.okey 8), .string (Kp.okey 9), .string (Kp.okey 10), .string (Kp.okey 11)]
theorem KeysAt.lt {w : World} {kb : Nat} (h : KeysAt w kb) : kb < w.heap.size := Blk.lt (show Blk w kb 9 _ from h)
theorem KeysAt.older {w w' : World} {kb : Nat} (h : KeysAt w kb) (hb : Below w.heap.size w w') : KeysAt w' kb := Blk.older (show Blk w kb 9 _ from h) hb h.lt
theorem KeysAt.at {w : World} {kb : Nat} (h : KeysAt w kb) {j : Nat} (hj : j < 12) : w.cell? ⟨kb, j, none⟩ = some (.string (Kp.okey j)) := by
  have h' : Blk w kb 9 _ := h
  rw [h'.cell]
  match j, hj with
  | 0, _ => rfl
  | 1, _ => rfl
  | 2, _ => rfl
  | 3, _ => rfl
  | 4, _ => rfl
  | 5, _ => rfl
  | 6, _ => rfl
  | 7, _ => rfl
  | 8, _ => rfl
  | 9, _ => rfl
  | 10, _ => rfl
  | 11, _ => rfl
  | j + 12, hj => omega

/-- What the loop knows: the store s (opened between w0 and w1), the store t (between w1 and w2, idle), the law's own rows (behind w2). p records were put, the row has i, the entries have j. -/
structure OrdAt (w0 w1 w2 : World) (gs s kb : Nat) (r : List Kp.Rc) (b p i j : Nat) (lv mv : Value) (wr : World) : Prop where
  shop : ∃ (K : Keep) (lb cap mb n : Nat) (st : Dk.St) (e : Int), lv = .slice (some ⟨lb, 0, none⟩) i cap ∧ RowR wr w2.heap.size lv (r.take i) ∧ (∀ j, w1.heap.size ≤ j → j < w2.heap.size → K.p j) ∧ (mb < w1.heap.size ∨ w2.heap.size ≤ mb) ∧
    @Shop (butRow lb) K wr w0.heap.size gs s mb n 1048576 (Kp.all [] ((Kp.turned r b).take p)) st e ∧ n ≤ 12192 + p ∧ e ≤ 1 + p ∧ st.many ≤ 2 + 258 * p
  ents : Solid wr w2.heap.size mv (Kp.all [] (r.take j))
  keys : KeysAt wr kb
  ch : @Ch ⟨fun j => w1.heap.size ≤ j ∧ j < w2.heap.size⟩ Tk w0.heap.size w2 wr

section
variable {w0 w1 w2 wr w' : World} {gs s kb : Nat} {r : List Kp.Rc} {b p i j : Nat} {lv mv : Value}
theorem OrdAt.to (h : OrdAt w0 w1 w2 gs s kb r b p i j lv mv wr) (hb : Below wr.heap.size wr w') : OrdAt w0 w1 w2 gs s kb r b p i j lv mv w' := by
  obtain ⟨⟨K, lb, cap, mb, n, st, e, h1, h2, h3, h4, h5, h6⟩, h7, h8, h9⟩ := h
  have h8' : Blk wr kb 9 _ := h8
  exact ⟨⟨K, lb, cap, mb, n, st, e, h1, h2.below hb, h3, h4, @Shop.below (butRow lb) _ _ _ _ _ _ _ _ _ _ _ _ h5 hb, h6⟩, h7.below hb, h8'.older hb h8'.lt, h9.own (gr_of_below hb none) (fun _ h => by cases h)⟩

theorem OrdAt.zero {K1 : Keep} {mb n : Nat} {st1 : Dk.St} (hS : Shop K1 w1 w0.heap.size gs s mb n 1048576 [] st1 (0 + 1)) (hn : n ≤ 12192 ∧ st1.many ≤ 2) (hb : Below w1.heap.size w1 w2) (hk : KeysAt w2 kb) :
    OrdAt w0 w1 w2 gs s kb r b 0 0 0 (.slice (some ⟨w2.heap.size, 0, none⟩) 0 0) (.slice (some ⟨w2.heap.size + 1, 0, none⟩) 0 0) ((w2.alloc (.cells #[] 32)).alloc (.cells #[] 65)) := by
  have hba : Below w2.heap.size w2 (w2.alloc (.cells #[] 32)) := (Below.refl _ _).alloc (Nat.le_refl _) _
  have hbb : Below (w2.alloc (.cells #[] 32)).heap.size (w2.alloc (.cells #[] 32)) ((w2.alloc (.cells #[] 32)).alloc (.cells #[] 65)) := (Below.refl _ _).alloc (Nat.le_refl _) _
  have hbc := hba.trans (hbb.mono hba.size)
  have hrow : RowR (w2.alloc (.cells #[] 32)) w2.heap.size (.slice (some ⟨w2.heap.size, 0, none⟩) 0 0) [] := World.ownsRow_made w2 #[] 0 (Nat.le_refl _) (by unfold maxLen; omega) rfl
  have hent := own_ent (w2.alloc (.cells #[] 32))
  have hsz : (w2.alloc (.cells #[] 32)).heap.size = w2.heap.size + 1 := by simp
  rw [hsz] at hent
  have hlt := hS.lt
  have h1 := shop_told (R' := butRow w2.heap.size) (shop_more hS hb) (fun b hb _ => by show b ≠ w2.heap.size; omega)
  have hk' : Blk w2 kb 9 _ := hk
  refine ⟨⟨more K1 w1.heap.size w2.heap.size, w2.heap.size, 0, mb, n, st1, 0 + 1, rfl, hrow.below hbb, fun j h1 h2 => .inr ⟨h1, h2⟩, .inl hlt, @Shop.below (butRow w2.heap.size) _ _ _ _ _ _ _ _ _ _ _ _ h1 hbc, by omega, by omega, by omega⟩, ⟨hent.ents, .inl rfl⟩, hk'.older hbc hk'.lt, (@Ch.refl ⟨fun j => w1.heap.size ≤ j ∧ j < w2.heap.size⟩ Tk w0.heap.size w2).own (gr_of_below hbc none) (fun _ h => by cases h)⟩

/-- Nothing of it is odd. -/
theorem not_odd_one {z : Kp.Rc} (h : z.k = 1) : ¬ Kp.odd [z] := by
  rintro ⟨x, hx, h1, h2⟩
  simp at hx
  subst hx
  exact h1 h

set_option maxRecDepth 20000 in
/-- One more is put. -/
theorem OrdAt.put (h : OrdAt w0 w1 w2 gs s kb r b i i i lv mv wr) (hr : Kp.heavy r ≤ 4096 ∧ r.length ≤ 12) {vone : Value} {z : Kp.Rc} (hrec : Recs wr vone [z]) (hz : (Kp.turned r b)[i]? = some z) (hz1 : z.k = 1) :
    Calls Tryz.prog 11 #[.pointer (some ⟨s, 0, none⟩), vone] wr fun e w' => e = .returned (.int .i64 0) ∧ OrdAt w0 w1 w2 gs s kb r b (i + 1) i i lv mv w' := by
  obtain ⟨⟨K, lb, cap, mb, n, st, e, h1, h2, h3, h4, h5, h6, h7, h8⟩, h9, h10, h11⟩ := h
  have hup : Kp.all (Kp.all [] ((Kp.turned r b).take i)) [z] = Kp.all [] ((Kp.turned r b).take (i + 1)) := (all_up (m := []) hz).symm
  have hi : i < 12 := by
    have := (List.getElem?_eq_some_iff.1 hz).1
    rw [Kp.turned_length] at this
    omega
  have s0 := Kp.size_all_le ((Kp.turned r b).take i) []
  have s1 := Kp.size_all_le ((Kp.turned r b).take (i + 1)) []
  have p0 := Kp.heavy_part (Kp.turned r b) i
  have p1 := Kp.heavy_part (Kp.turned r b) (i + 1)
  rw [Kp.heavy_turned] at p0 p1
  have l0 := Kp.length_all_le ((Kp.turned r b).take i) []
  have l1 := Kp.length_all_le ((Kp.turned r b).take (i + 1)) []
  have hz2 : Kp.heavy [z] ≤ 4096 := by
    obtain ⟨q1, rfl⟩ := List.getElem?_eq_some_iff.1 hz
    have := Kp.heavy_append ((Kp.turned r b).take i) [(Kp.turned r b)[i]]
    rw [← List.take_succ_eq_append_getElem q1] at this
    omega
  have hs0 : Kp.size ([] : Kp.Mp) = 0 := rfl
  rw [List.length_take] at l0 l1
  have l0' : (Kp.all [] ((Kp.turned r b).take i)).length ≤ 12 := by simp only [List.length_nil] at l0; omega
  have l1' : (Kp.all [] ((Kp.turned r b).take (i + 1))).length ≤ 13 := by simp only [List.length_nil] at l1; omega
  have hbat := Kp.batch_short (m := Kp.all [] ((Kp.turned r b).take (i + 1))) (by omega) (by omega)
  have hlb : lb < wr.heap.size := by
    rw [h1] at h2
    exact (h2.lt (g := lb) rfl).2
  refine (@shop_put (butRow lb) K wr w0.heap.size gs s mb n 1048576 _ st e h5 (by omega) [z] vone hrec (by omega) (by simp only [List.length_cons, List.length_nil]; omega) (by omega) (by simp only [List.length_cons, List.length_nil]; omega) (fun g hg => by show g ≠ lb; omega)).mono ?_
  rintro e' w5 ⟨E, K', mb', n', st', e1, rfl, hK, hS, he0, he1, hn', hc, hmb, hm', hE, -, -⟩
  rw [hup] at hE
  have hE0 : E = 0 := by
    rcases hE with h | ⟨_, h⟩ | ⟨_, _, h | h⟩
    · exact h
    · exact absurd h (not_odd_one hz1)
    · omega
    · omega
  subst hE0
  rw [if_pos rfl, hup] at hS
  have h10' : Blk wr kb 9 #[.string (Kp.okey 0), .string (Kp.okey 1), .string (Kp.okey 2), .string (Kp.okey 3), .string (Kp.okey 4), .string (Kp.okey 5), .string (Kp.okey 6), .string (Kp.okey 7), .string (Kp.okey 8), .string (Kp.okey 9), .string (Kp.okey 10), .string (Kp.okey 11)] := h10
  have hks : KeysAt w5 kb := Chg.blk hc h10' (by rfl)
  refine ⟨rfl, ⟨⟨K', lb, cap, mb', n', st', e1, h1, owns_ch h2 hc (fun _ => rfl), fun j a1 a2 => hK j (h3 j a1 a2), ?_, hS, by clear hbat; simp only [List.length_cons, List.length_nil] at hn'; omega, by clear hbat; omega, by clear hbat; omega⟩, h9.kept hc (fun _ => rfl), hks, h11.trans (hc.less (fun j a => h3 j a.1 a.2))⟩⟩
  have := h11.size
  rcases hmb with rfl | hmb
  · exact h4
  · exact .inr (by omega)
end
end Go.Proofs.YtimcepoleboldaaGreatDoor
