/- What fasten and goDark come to: loops over the loose sectors. -/
import Derived.Test.YtgahcbhdnplnoaaDoorCkDiskDsk
import Derived.LoopTactic
import Derived.RegionTactic
import Derived.Laws.Shifts
import Derived.Laws.ShiftsVarLaws
import Derived.Laws.BitsAllLaws
namespace Go.Proofs.YtgahcbhdnplnoaaDoor
open Go.RowKit

theorem MapIs.del {w : World} {m n k : Nat} {l : List (Nat × ByteArray)} {p : Nat × ByteArray} (h : MapIs w m n (l.drop k)) (hl : (l.map (·.1)).Nodup) (hk : l[k]? = some p) (hp : p.1 < 256) (ty : TypeId) :
    ∃ w', (Builtin.delete_ #[57, 3] ty #[.map (some m), .int .i64 (p.1 : Int)]).run Tryd.prog w = .ok (.tuple #[]) w' ∧ MapIs w' m n (l.drop (k + 1)) ∧ w.grownBy w' (some m) := by
  obtain ⟨D, h1, h2, h3⟩ := h
  obtain ⟨w', hrun, r1, r2⟩ := h1.drop key_int Tryd.underlying57 (Maps.keyOf_int_mk Tryd.underlying3 (key_wf hp)) ty
  refine ⟨w', hrun, ⟨_, r1, h2.del _, ?_⟩, r2.grown⟩
  intro j hj z
  rw [Dk.was_drop hl hk]
  by_cases e : p.1 = j
  · subst e
    rw [if_pos rfl, Maps.atKey_del_same]
  · rw [if_neg e, Maps.atKey_del_other (lit_ne e), h3 j hj]

theorem wpList_delete_is (w : World) {ops : Array Oper} {rest : List Oper} {o : Oper} {a : Act} {Q : Exit → Act → World → Prop}
    (hg : o.guard = none) (mo x : Operand) (hop : o.op = Op.call { callee := Callee.builtin Builtin.delete, args := #[mo, x], argTypes := #[57, 3] })
    {m n k : Nat} {l : List (Nat × ByteArray)} {p : Nat × ByteArray} (h : MapIs w m n (l.drop k)) (hl : (l.map (·.1)).Nodup) (hk : l[k]? = some p) (hp : p.1 < 256)
    (hm : a.eval mo = .map (some m)) (hx : a.eval x = .int .i64 (p.1 : Int))
    (hK : ∀ w', MapIs w' m n (l.drop (k + 1)) → w.grownBy w' (some m) → wpList Tryd.prog ops Q rest (a.put o.dst (.tuple #[])) w') :
    wpList Tryd.prog ops Q (o :: rest) a w := by
  refine wpList_plain hg fun K' hK' => ?_
  obtain ⟨w', hrun, r1, r2⟩ := h.del hl hk hp o.type
  unfold Oper.wp
  simp [execOp, hop, resolve, invoke, builtin, hm, hx, hrun, Result.andThen]
  exact hK' _ _ (hK w' r1 r2)

/-- How the row of the loose ones lies. -/
theorem loose_row {w : World} {B : Nat} {lv : Value} {l : List (Nat × ByteArray)} (h : w.ownsRow B 3 1 lv l.length (ints l)) :
    ∃ A cap, lv = .slice A l.length cap ∧ (∀ k p, l[k]? = some p → ∃ b cur, A = some ⟨b, 0, none⟩ ∧ Blk w b 3 cur ∧ w.cell? ⟨b, k, none⟩ = some (.int .i64 (p.1 : Int))) ∧ w.ownsRow B 3 1 (.slice A 0 cap) 0 [] := by
  rcases h.2 with ⟨rfl, h0⟩ | ⟨g, cap, cur, rfl, hb, hg, hnc, hcm, hcs, htk⟩
  · refine ⟨none, 0, by rw [h0], ?_, World.ownsRow_nil _ _ _ _⟩
    intro k p hk
    have := (List.getElem?_eq_some_iff.1 hk).1
    omega
  · refine ⟨some ⟨g, 0, none⟩, cap, rfl, ?_, ⟨by simp, .inr ⟨g, cap, cur, rfl, hb, hg, by omega, hcm, hcs, by simp⟩⟩⟩
    intro k p hk
    refine ⟨g, cur, rfl, hg, ?_⟩
    have h1 : (ints l)[k]? = some (.int .i64 (p.1 : Int)) := by simp [ints, hk]
    have h2 := h.cells (g := g) rfl k _ h1
    rw [Addr.add_lit, Nat.zero_add] at h2
    exact h2

theorem row_apart {w : World} {B n size g : Nat} {e t : TypeId} {v : Value} {xs : List Value} {cs : Array Value} (h : w.ownsRow B e size v n xs) (hb : Blk w g t cs) (ht : t ≠ e) : v.ownBlock = none ∨ v.ownBlock ≠ some g := by
  rcases h.2 with ⟨rfl, _⟩ | ⟨b, cap, cur, rfl, _, hh, _⟩
  · exact .inl rfl
  · refine .inr ?_
    intro e
    simp [Value.ownBlock] at e
    subst e
    rw [show w.heap[b]? = some (.cells _ t (0, 0)) from hb] at hh
    injection hh with hh
    injection hh with _ hh
    exact ht hh
theorem row_apart_map {w : World} {B n size m k : Nat} {e : TypeId} {v : Value} {xs : List Value} {l : List (Nat × ByteArray)} (h : w.ownsRow B e size v n xs) (hm : MapIs w m k l) : v.ownBlock = none ∨ v.ownBlock ≠ some m := by
  rcases h.2 with ⟨rfl, _⟩ | ⟨b, cap, cur, rfl, _, hh, _⟩
  · exact .inl rfl
  · refine .inr ?_
    intro e
    simp [Value.ownBlock] at e
    exact hm.ne hh e.symm

/-- The disk behind fasten. -/
theorem fasten_end {w wr : World} {B g m n : Nat} {st : Dk.St} {lv : Value} {tc tf : Int} {A : Option Addr} {cap : Nat} (h : DskAt w B g st m lv tc tf n) (hE : w.ownsRow B 3 1 (.slice A 0 cap) 0 []) (hmap : MapIs wr m n []) (hgr : w.grownBy wr (some m)) :
    DskAt (wr.setCell ⟨g, 257, none⟩ (.slice A 0 cap)) B g st.fasten m (.slice A 0 cap) tc tf n ∧ Ch Td0 B w (wr.setCell ⟨g, 257, none⟩ (.slice A 0 cap)) := by
  have hmg := h.map.ne h.blk
  have hb := h.blk.grown hgr (by intro e; injection e with e; exact hmg e.symm)
  have hs := Lib.grownBy_setCell wr g 257 (.slice A 0 cap)
  have hr := hE.kept hgr (row_apart_map hE h.map)
  refine ⟨{ blk := dk_set_lv hb (.slice A 0 cap), map := hmap.grown hs (by intro e; injection e with e; exact hmg e), row := hr.kept hs (row_apart hr hb (by decide)), atg := h.atg, atm := h.atm, cuts := h.cuts, tcle := h.tcle, fails := h.fails, tfle := h.tfle, keep := h.keep, inv := h.inv.fasten }, ?_⟩
  obtain ⟨es, c, e⟩ := h.map.block
  exact (Ch.of_grown hgr (fun k hk => by injection hk with hk; subst hk; exact ⟨h.atm, _, e, rfl⟩)).trans (Ch.set hb h.atg rfl 257 _)

/-- What the loop of fasten knows behind k sectors. -/
def FastLoop (w : World) (m n : Nat) (l : List (Nat × ByteArray)) (v : Value) (wr : World) : Prop :=
  ∃ k : Nat, k ≤ l.length ∧ v = .int .i64 (k : Int) ∧ MapIs wr m n (l.drop k) ∧ w.grownBy wr (some m)

set_option maxHeartbeats 400000 in
theorem fasten_any (B g : Nat) (st : Dk.St) (m : Nat) (lv : Value) (tc tf : Int) (n : Nat) (w : World) (h : DskAt w B g st m lv tc tf n) (hm : st.many ≤ 1099511627776) :
    Calls Tryd.prog 37 #[.pointer (some ⟨g, 0, none⟩)] w fun e w' => e = .returned (.tuple #[]) ∧ (∃ lv', lv'.ownBlock = lv.ownBlock ∧ DskAt w' B g st.fasten m lv' tc tf n) ∧ Ch Td0 B w w' := by
  have hnd := Lib.hid h.inv.nodup
  have hky := Lib.hid h.inv.keys
  have hfew : st.loose.length ≤ 1099511627776 := Nat.le_trans h.inv.few hm
  obtain ⟨A, cap, rfl, hrow, hemp⟩ := loose_row h.row
  obtain ⟨c0, c1, -⟩ := dk_cells h.blk
  have f1 := dk_frozen h.blk 257
  simp only [rawOf] at c0 c1
  have hmg := h.map.ne h.blk
  have hgm := fun e : g = m => hmg e.symm
  have HR := Lib.hid hrow; have HE := Lib.hid hemp; clear hrow hemp
  have HD := Lib.hid h
  have hst : MapIs w m n (st.loose.drop 0) := h.map
  clear h hm
  go_enter Tryd.func37, Tryd.ntmps37
  go_wp2_with fail
  go_loopw [9] (FastLoop w m n st.loose) (fun v _ => st.loose.length - (intOf v).toNat)
  case atStart => exact ⟨0, Nat.zero_le _, rfl, hst, World.grownBy.refl _ _⟩
  case round =>
    obtain ⟨k, hk, rfl, hmap, hgr⟩ := hrel
    have d0 := hgr.cell c0 (by simpa using hgm)
    have d1 := hgr.cell c1 (by simpa using hgm)
    by_cases hlt : k < st.loose.length
    · obtain ⟨p, hp⟩ : ∃ p, st.loose[k]? = some p := ⟨_, List.getElem?_eq_getElem hlt⟩
      obtain ⟨b, cur, rfl, hb, hc⟩ := HR.out k p hp
      have hbm : m ≠ b := (HD.out).map.ne hb
      have d2 := hgr.cell hc (by simpa using fun e : b = m => hbm e.symm)
      have hp256 := (hky.out p (List.mem_of_getElem? hp)).1
      have HP := Lib.hid hp; clear hp hc hb
      go_wp2_with (at_delete; refine wpList_delete_is _ rfl _ _ rfl hmap hnd.out HP.out hp256 rfl rfl ?_; intro w1 hmap1 hgr1)
      go_roundw
      case rel => exact ⟨k + 1, by omega, by go_num, hmap1, gr_trans hgr hgr1⟩
      case measure => simp [intOf]; omega
    · obtain rfl : k = st.loose.length := by omega
      rw [List.drop_length] at hmap
      have f2 : wr.frozen? ⟨g, 257, none⟩ = false := ((HD.out).blk.grown hgr (by simpa using hgm)).frozen 257
      have R := fasten_end HD.out HE.out hmap hgr
      have HF := Lib.hid R; clear R hmap
      go_wp2_with fail
      go_end0
      exact ⟨rfl, ⟨.slice A 0 cap, by cases A <;> rfl, HF.out.1⟩, HF.out.2⟩

/-! ### goDark -/

/-- The state when the first k loose sectors have been gone through. -/
def stTo (st : Dk.St) (k : Nat) : Dk.St := { st with is := Dk.dieTo st.is st.keep st.loose k }

theorem stTo_inv {st : Dk.St} (h : Dk.Inv st) (k : Nat) : Dk.Inv (stTo st k) := ⟨h.nodup, h.keys, fun j => Dk.dieTo_size h k j, h.few⟩

theorem stTo_keep {st : Dk.St} {k : Nat} (h : Dk.bit st.keep k = true) : stTo st (k + 1) = stTo st k := by
  unfold stTo; rw [Dk.dieTo_keep h]

theorem dark_and (keep k : Nat) (h : keep < 18446744073709551616) : bits .and .u64 ((keep : Int) / 2 ^ (k % 64)) 1 = ((keep / 2 ^ (k % 64) % 2 : Nat) : Int) := by
  have e : ((keep : Int) / 2 ^ (k % 64)) = ((keep / 2 ^ (k % 64) : Nat) : Int) := by simp
  have hle := Nat.div_le_self keep (2 ^ (k % 64))
  rw [e, show (1 : Int) = ((1 : Nat) : Int) from rfl, u64_and_nat _ _ (by omega) (by decide), nat_mask1]
theorem dark_one {keep k : Nat} (h : keep < 18446744073709551616) (hb : Dk.bit keep k = true) : bits .and .u64 ((keep : Int) / 2 ^ (k % 64)) 1 = 1 := by
  rw [dark_and _ _ h, of_decide_eq_true hb]; rfl
theorem dark_zero {keep k : Nat} (h : keep < 18446744073709551616) (hb : Dk.bit keep k = false) : bits .and .u64 ((keep : Int) / 2 ^ (k % 64)) 1 = 0 := by
  have := of_decide_eq_false hb
  have h2 : keep / 2 ^ (k % 64) % 2 = 0 := by omega
  rw [dark_and _ _ h, h2]; rfl

/-- A sector back to what lasted. -/
theorem dark_back {w : World} {B g m n k : Nat} {st : Dk.St} {lv : Value} {tc tf : Int} {p : Nat × ByteArray} (h : DskAt w B g (stTo st k) m lv tc tf n) (hp : st.loose[k]? = some p) (h256 : p.1 < 256) (hb : Dk.bit st.keep k = false) (hi : Dk.Inv st) :
    DskAt (w.drew.setCell ⟨g, p.1, none⟩ (.string p.2)) B g (stTo st (k + 1)) m lv tc tf n ∧ Ch Td0 B w (w.drew.setCell ⟨g, p.1, none⟩ (.string p.2)) := by
  have e : stTo st (k + 1) = { stTo st k with is := Dk.up (stTo st k).is p.1 p.2 } := by
    unfold stTo
    rw [Dk.dieTo_back hp hb]
  have h1 : DskAt w.drew B g (stTo st k) m lv tc tf n := h.drew
  refine ⟨?_, ((Ch.refl _ _ _).drew).trans (h1.ch _ _)⟩
  have h2 := stTo_inv hi (k + 1)
  rw [e] at h2 ⊢
  exact h1.field (dk_set_sect h1.blk h256 p.2) rfl (Nat.le_refl _) h1.cuts h1.tcle h1.fails h1.tfle h1.keep h2

/-- What goDark's loop knows. -/
def DarkLoop (w : World) (B g : Nat) (st : Dk.St) (m : Nat) (lv : Value) (tc tf : Int) (n : Nat) (v : Value) (wr : World) : Prop :=
  ∃ k : Nat, k ≤ st.loose.length ∧ v = .int .i64 (k : Int) ∧ DskAt wr B g (stTo st k) m lv tc tf n ∧ Ch Td0 B w wr

set_option maxHeartbeats 400000 in
theorem dark_any (B g : Nat) (st : Dk.St) (m : Nat) (lv : Value) (tc tf : Int) (n : Nat) (w : World) (h : DskAt w B g st m lv tc tf n) (hm : st.many ≤ 1099511627776) :
    Calls Tryd.prog 36 #[.pointer (some ⟨g, 0, none⟩)] w fun e w' => e = .returned (.tuple #[]) ∧ (∃ lv', lv'.ownBlock = lv.ownBlock ∧ DskAt w' B g st.die m lv' tc tf n) ∧ Ch Td0 B w w' := by
  have hnd := Lib.hid h.inv.nodup
  have hky := Lib.hid h.inv.keys
  have hfew : st.loose.length ≤ 1099511627776 := Nat.le_trans h.inv.few hm
  have hst : DskAt w B g (stTo st 0) m lv tc tf n := h
  obtain ⟨A, cap, rfl, -⟩ := loose_row h.row
  obtain ⟨c0, c1, -⟩ := dk_cells h.blk
  simp only [rawOf] at c0 c1
  have HM := Lib.hid hm
  have HK := Lib.hid h.keep
  have HI := Lib.hid h.inv
  clear h hm
  go_enter Tryd.func36, Tryd.ntmps36
  go_wp2_with fail
  go_loopw [9] (DarkLoop w B g st m (.slice A st.loose.length cap) tc tf n) (fun v _ => st.loose.length - (intOf v).toNat)
  case atStart => exact ⟨0, Nat.zero_le _, rfl, hst, Ch.refl _ _ _⟩
  case round =>
    obtain ⟨k, hk, rfl, hD, hch⟩ := hrel
    by_cases hlt : k < st.loose.length
    · obtain ⟨p, hp⟩ : ∃ p, st.loose[k]? = some p := ⟨_, List.getElem?_eq_getElem hlt⟩
      have hp256 := (hky.out p (List.mem_of_getElem? hp)).1
      obtain ⟨A', cap', e, hrow, -⟩ := loose_row hD.row
      obtain ⟨b, cur, e2, hb, hc⟩ := hrow k p hp
      subst e2
      injection e with e3 e4 e5
      obtain ⟨d0, -, -, -, -, -, d6⟩ := dk_cells hD.blk
      simp only [rawOf, stTo] at d0 d6
      have hkp : (stTo st k).keep = st.keep := rfl
      have f0 := dk_frozen hD.blk p.1
      have s0 := dk_sect hD.blk hp256
      have hlook := (hD.map.drew).look hp256
      clear hkp hrow
      subst e3 e5
      clear e4 c0 c1
      have HP := Lib.hid hp; have HD := Lib.hid hD
      clear hp hb hD
      rw [show (stTo st k).loose = st.loose from rfl, Dk.was_at hnd.out HP.out] at hlook
      simp only [Option.getD_some] at hlook
      clear hst
      cases hbit : Dk.bit st.keep k with
      | true =>
        have hone := dark_one HK.out hbit
        have HE := Lib.hid (stTo_keep hbit); clear hbit
        go_wp2_with fail
        go_roundw
        case rel => exact ⟨k + 1, by omega, by go_num, by rw [HE.out]; exact HD.out, hch⟩
        case measure => simp [intOf]; omega
      | false =>
        have hzero := dark_zero HK.out hbit
        have HE := Lib.hid (dark_back HD.out HP.out hp256 hbit HI.out); clear hbit
        go_wp2_with fail
        go_region
        all_goals
          go_wp2_with fail
          go_roundw
          case rel => exact ⟨k + 1, by omega, by go_num, HE.out.1, hch.trans HE.out.2⟩
          case measure => simp [intOf]; omega
    · obtain rfl : k = st.loose.length := by omega
      have HD := Lib.hid hD
      clear hD hst c0 c1
      go_wp2_with fail
      refine (fasten_any B g _ m _ tc tf n wr HD.out HM.out).mono ?_
      rintro e w1 ⟨rfl, ⟨lv1, ho1, h1⟩, hch1⟩
      obtain ⟨-, -, d2, -⟩ := dk_cells h1.blk
      have f2 := dk_frozen h1.blk 258
      have R : DskAt (w1.setCell ⟨g, 258, none⟩ (.bool true)) B g st.die m lv1 tc tf n := h1.field (dk_set_off h1.blk true) rfl (Nat.le_refl _) h1.cuts h1.tcle h1.fails h1.tfle h1.keep HI.out.die
      have HF := Lib.hid (And.intro R ((hch.trans hch1).trans (h1.ch 258 (.bool true))))
      clear R h1 hch1
      go_wp2_with fail
      go_end0
      exact ⟨rfl, ⟨_, ho1.trans rfl, HF.out.1⟩, HF.out.2⟩

end Go.Proofs.YtgahcbhdnplnoaaDoor
