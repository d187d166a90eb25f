/- A store within whose Put the power may go: the calls of KeepCuts. -/
import Derived.Test.YtimcepoleboldaaGreatDoorKpD
namespace Go.Proofs.YtimcepoleboldaaGreatDoor
open Go.RowKit Go.Deep

/-- As a shop, but a cut may be set. -/
def Dim (K : Keep) (w : World) (B g s mb n : Nat) (room : Int) (m : Kp.Mp) (st : Dk.St) (e : Int) : Prop :=
  ∃ (q tb : Nat) (t : Lg.Top) (L : List (Int × List UInt8)) (N : Nat) (ep : Int), t.e = e ∧ @Dsk K w B g st ∧ Kpwg K w B s q g tb mb n ⟨⟨t, N, 0⟩, room, m⟩ ∧ Lg.Still st ∧ Lg.Live st.is t L N ep ∧ Kp.mapOf (L.map (·.2)) = m
/-- The power is on, or off, and nothing is loose. -/
def OnOff (st : Dk.St) : Prop := Lg.Still st ∨ Lg.Off st

theorem on_again {st : Dk.St} (h : OnOff st) (keep : Nat) : Lg.Still ((st.cut 1 keep).barrier).power ∧ ((st.cut 1 keep).barrier).power.is = st.is ∧ ((st.cut 1 keep).barrier).power.cuts = 0 := by
  have h1 : Lg.Off (st.cut 1 keep).barrier ∧ (st.cut 1 keep).barrier.is = st.is := by
    rcases h with h | h
    · have := (h.cut 1 keep).dies rfl
      exact ⟨this.1, this.2.1⟩
    · have := (h.cut 1 keep).barrier
      rw [this.1]
      exact ⟨h.cut 1 keep, rfl⟩
  have h2 := h1.1.power
  exact ⟨h2.1, by rw [h2.2.1, h1.2], h2.2.2⟩

section
variable {K : Keep} {w w' : World} {B g s mb n : Nat} {room : Int} {m : Kp.Mp} {st : Dk.St} {e : Int}
theorem Kpwg.disk {q tb : Nat} {ks : Kp.Ks} (h : Kpwg K w B s q g tb mb n ks) (hc : @Ch K Td B w w') : Kpwg K w' B s q g tb mb n ks :=
  ⟨hc.blk h.blk rfl, h.ats, h.free, h.log.kept hc (fun _ => rfl), h.tab.kept hc h.kept (fun _ => rfl) (fun _ => rfl), h.kept⟩
theorem Dim.below (h : Dim K w B g s mb n room m st e) (hb : Below w.heap.size w w') : Dim K w' B g s mb n room m st e := by
  obtain ⟨q, tb, t, L, N, ep, h1, h2, h3, h4⟩ := h
  exact ⟨q, tb, t, L, N, ep, h1, dsk_below h2 hb, h3.below hb, h4⟩
theorem shop_cut (h : Shop K w B g s mb n room m st e) (x : Int) (keep : Nat) (hx : -9223372036854775808 ≤ x ∧ x ≤ 9223372036854775807) (hk : keep < 18446744073709551616) :
    Calls Tryz.prog 26 #[.pointer (some ⟨g, 0, none⟩), .int .i64 x, .int .u64 (keep : Int)] w fun y w' => y = .returned (.tuple #[]) ∧ Dim K w' B g s mb n room m (st.cut x keep) e ∧ @Ch K Td B w w' := by
  obtain ⟨q, tb, t, L, N, ep, h1, h2, h3, h4, h5, h6, -⟩ := h
  refine (@cut_any K B g st x keep w h2 hx hk).mono ?_
  rintro y w' ⟨rfl, hd, hc⟩
  exact ⟨rfl, ⟨q, tb, t, L, N, ep, h1, hd, h3.disk hc, h4.cut x keep, h5, h6⟩, hc⟩

/-- What such a Put comes to. -/
def DimPut (K : Keep) (B g : Nat) (m : Kp.Mp) (st : Dk.St) (e0 : Int) (l : List Kp.Rc) (w : World) (y : Ending) (w' : World) : Prop :=
  ∃ (E : Int) (K' : Keep) (st' : Dk.St) (t' : Lg.Top) (L' : List (Int × List UInt8)) (N' : Nat) (ep' : Int), y = .returned (.int .i64 E) ∧ @Dsk K' w' B g st' ∧ @Ch K Tk B w w' ∧ OnOff st' ∧ Lg.Good st'.is t' L' N' ep' ∧ t'.e ≤ e0 + 1 ∧ st'.many ≤ st.many + 258 ∧
    ((E = 0 ∧ Kp.mapOf (L'.map (·.2)) = Kp.all m l) ∨ (E ≠ 0 ∧ Kp.mapOf (L'.map (·.2)) = m) ∨ (E = 33 ∧ Kp.mapOf (L'.map (·.2)) = Kp.all m l))
theorem dim_put (h : Dim K w B g s mb n room m st e) (he : e < 1099511627776) {l : List Kp.Rc} {vl : Value} (hl : Recs w vl l) (hs : Kp.size m + Kp.heavy l ≤ 200000) (hm : m.length + l.length ≤ 20000) (hn : st.many ≤ 900000) (hnn : n + l.length ≤ 1000000000) :
    Calls Tryz.prog 11 #[.pointer (some ⟨s, 0, none⟩), vl] w (DimPut K B g m st e l w) := by
  obtain ⟨q, tb, t, L, N, ep, rfl, hd, hk, hst, hlv, hmap⟩ := h
  have hrun := Kp.put_run hst hlv he room hmap (l := l) (by omega) (by omega) rfl
  have hmany := Kp.many_putK ⟨⟨t, N, 0⟩, room, m⟩ st l
  refine (put_store K B s q g tb mb n _ st l vl w hd hk hl hs hm hn hnn).mono ?_
  rintro e w' ⟨rfl, K', tb', mb', n', hK, hd', hk', hn', hch, hmb⟩
  generalize Kp.putK ⟨⟨t, N, 0⟩, room, m⟩ st l = P at *
  rcases hrun with ⟨h1, h2⟩ | ⟨h1, h2, h3⟩ | ⟨h1, h2, h3, h4, h5⟩ | ⟨h1, h2, h3, h4⟩
  · rw [h2] at hd' ⊢
    exact ⟨_, K', _, t, L, N, ep, rfl, hd', hch, .inl hst, hlv.good, by omega, Nat.le_add_right _ _, .inr (.inl ⟨by simp, hmap⟩)⟩
  · rw [h3] at hd' ⊢
    exact ⟨_, K', _, t, L, N, ep, rfl, hd', hch, .inl hst, hlv.good, by omega, Nat.le_add_right _ _, .inl ⟨rfl, by rw [h2]; exact hmap⟩⟩
  · rw [h5] at hd' ⊢
    exact ⟨_, K', _, t, L, N, ep, rfl, hd', hch, .inl hst, hlv.good, by omega, Nat.le_add_right _ _, .inr (.inl ⟨by simp, hmap⟩)⟩
  · rcases h4 with ⟨e1, e2, e3⟩ | ⟨e1, e2, t', L', N', ep', e3, e4, e5, e6, e7⟩ | ⟨e1, _, e3, e4, e5, t', L', N', ep', e6, e7, e8, e9⟩
    · exact ⟨_, K', _, t, L, N, ep, rfl, hd', hch, by rw [e2]; exact .inl hst, by rw [e2]; exact hlv.good, by omega, hmany, .inr (.inl ⟨by rw [e1]; decide, hmap⟩)⟩
    · exact ⟨_, K', _, t', L', N', ep', rfl, hd', hch, .inl e2, e4.good, e7, hmany, .inl ⟨e1, e5⟩⟩
    · refine ⟨_, K', _, t', L', N', ep', rfl, hd', hch, .inr e3, e6, e9, hmany, ?_⟩
      rcases e7 with e7 | e7
      · exact .inr (.inl ⟨by rw [e1]; decide, e7⟩)
      · exact .inr (.inr ⟨e1, e7⟩)
end
end Go.Proofs.YtimcepoleboldaaGreatDoor
