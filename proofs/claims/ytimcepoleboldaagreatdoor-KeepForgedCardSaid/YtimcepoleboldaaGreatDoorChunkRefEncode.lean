/- What the document's Encode comes to. -/
import Derived.Test.YtimcepoleboldaaGreatDoorChunkEncode
import Derived.Test.YtimcepoleboldaaGreatDoorPackRefs
import Derived.Test.YtimcepoleboldaaGreatDoorSumCrcRef
import Derived.Deep.RegionWith
import Derived.Deep.RegionHeld3
namespace Go.Proofs.YtimcepoleboldaaGreatDoor
open Go.RowKit

/-- What the loop over the four bytes knows: those in pre are there, those of x are to come. -/
def Le4Loop (base crc : Nat) (w : World) (v6 v7 v8 : Value) (wr : World) : Prop :=
  ∃ (k x : Nat) (pre : List UInt8), k ≤ 4 ∧ v8 = .int .i64 (k : Int) ∧ v6 = .int .u32 (x : Int) ∧ x < 4294967296 ∧ pre.length = k ∧ pre ++ (Cn.le4 x).take (4 - k) = Cn.le4 crc ∧ wr.ownsRow base 5 1 v7 pre.length (Cells pre) ∧ Below base w wr

theorem le4_step {pre l : List UInt8} {k x : Nat} (hk : k < 4) (h : pre ++ (Cn.le4 x).take (4 - k) = l) : (pre ++ [UInt8.ofNat (x % 256)]) ++ (Cn.le4 (x / 256)).take (4 - (k + 1)) = l := by
  rw [← h, List.append_assoc]
  congr 1
  unfold Cn.le4
  have e1 : x / 256 / 256 = x / 65536 := by omega
  have e2 : x / 256 / 65536 = x / 16777216 := by omega
  rw [e1, e2]
  rcases (show k = 0 ∨ k = 1 ∨ k = 2 ∨ k = 3 by omega) with rfl | rfl | rfl | rfl <;> rfl

theorem byte256 (x : Nat) : (((UInt8.ofNat (x % 256)).toNat : Nat) : Int) = (x : Int) % 256 := by
  rw [UInt8.toNat_ofNat']; omega

/-- The string of a row of four bytes. -/
theorem le4_back {w : World} {base : Nat} {v : Value} {pre l : List UInt8} (hl : pre = l) (h4 : pre.length = 4) (h : w.ownsRow base 5 1 v pre.length (Cells pre)) :
    (convert 37 9 v).run Tryz.prog w = .ok (.string ⟨l.toArray⟩) w := by
  subst hl
  have h' := h
  rcases h.2 with hn | ⟨g, cap, cur, rfl, _⟩
  · have := hn.2; omega
  · exact str_back w base g pre.length cap pre rfl h'

theorem flag_cases (f l : Bool) (F : Int) (h : ((Cn.flags f l : Nat) : Int) = F) : (f = false ∧ l = false ∧ F = 0) ∨ (f = true ∧ l = false ∧ F = 1) ∨ (f = false ∧ l = true ∧ F = 2) ∨ (f = true ∧ l = true ∧ F = 3) := by
  cases f <;> cases l <;> subst h <;> decide

theorem own_down {w : World} {base base' : Nat} {e : TypeId} {size : Nat} {v : Value} {n : Nat} {xs : List Value} (h : w.ownsRow base e size v n xs) (hb : base' ≤ base) : w.ownsRow base' e size v n xs :=
  ⟨h.1, h.2.imp id fun ⟨g, cap, cur, h1, h2, h3⟩ => ⟨g, cap, cur, h1, Nat.le_trans hb h2, h3⟩⟩

theorem four_take {pre l m : List UInt8} (h : pre ++ m.take (4 - 4) = l) : pre = l := by simpa using h

theorem body_assoc (c : Cn.Chu) : Cn.body c = (Pk.code (Pk.cl c.e) ++ Pk.code (Pk.cl c.q)) ++ Pk.code (Pk.cl ((Cn.flags c.f c.l : Nat) : Int)) ++ Pk.texted c.d := by
  rw [Pk.cl_nat _ (by have := Cn.flags_le c.f c.l; omega)]
  rfl

theorem chunk_len {a b : List UInt8} (ha : a.length ≤ 4194304) (hb : b.length ≤ 4194304) : ¬ 9223372036854775807 < a.length + b.length := by omega

/-- A callee that leaves what was there leaves the chunk's cells. -/
theorem chunk_held {f : FuncId} {args : Array Value} {w W : World} {v a b d : Value} (h : Calls Tryz.prog f args W fun e w' => e = .returned v ∧ Below W.heap.size W w')
    (s : W.cell? ⟨w.heap.size, 0, none⟩ = some a ∧ W.cell? ⟨w.heap.size, 1, none⟩ = some b ∧ W.cell? ⟨w.heap.size, 4, none⟩ = some d ∧ w.heap.size < W.heap.size ∧ Below w.heap.size w W) :
    Calls Tryz.prog f args W fun e w' => e = .returned v ∧ w'.cell? ⟨w.heap.size, 0, none⟩ = some a ∧ w'.cell? ⟨w.heap.size, 1, none⟩ = some b ∧ w'.cell? ⟨w.heap.size, 4, none⟩ = some d ∧ w.heap.size < w'.heap.size ∧ Below w.heap.size w w' := by
  obtain ⟨s0, s1, s2, s3, s4⟩ := s
  refine h.mono ?_
  rintro e w' ⟨rfl, hb⟩
  have := hb.size
  exact ⟨rfl, (hb.cell (p := ⟨w.heap.size, 0, none⟩) s3).trans s0, (hb.cell (p := ⟨w.heap.size, 1, none⟩) s3).trans s1, (hb.cell (p := ⟨w.heap.size, 4, none⟩) s3).trans s2, by omega, s4.trans (hb.mono (by omega))⟩

set_option maxRecDepth 20000 in
set_option maxHeartbeats 1000000 in
theorem encode_ref (e q : Int) (f l : Bool) (d : ByteArray) (w : World) :
    Calls Tryz.prog 78 #[ChV e q f l d] w fun x w' => x = .returned (EncV ⟨e, q, f, l, d.data.toList⟩) ∧ Below w.heap.size w w' := by
  have hb := Blk.new w 95 (ChC e q f l d)
  have hg : Below w.heap.size w (w.alloc (.cells (ChC e q f l d) 95)) := (Below.refl _ _).alloc (Nat.le_refl _) _
  have hsz : w.heap.size < (w.alloc (.cells (ChC e q f l d) 95)).heap.size := by simp
  obtain ⟨d0, d1, d2, d3, d4⟩ := five hb
  by_cases harg : e < 0 ∨ 1099511627776 < e ∨ q < 0 ∨ 1099511627776 < q
  · have hV := Lib.hid (encV_arg ⟨e, q, f, l, d.data.toList⟩ harg)
    clear hb hsz d2 d3 d4
    rcases (show e < 0 ∨ (0 ≤ e ∧ 1099511627776 < e) ∨ (0 ≤ e ∧ e ≤ 1099511627776 ∧ q < 0) ∨ (0 ≤ e ∧ e ≤ 1099511627776 ∧ 0 ≤ q ∧ 1099511627776 < q) by omega) with h1 | ⟨h1, h2⟩ | ⟨h1, h2, h3⟩ | ⟨h1, h2, h3, h4⟩
    all_goals
      clear harg
      go_enter Tryz.func78, Tryz.ntmps78
      go_wp2_with fail
      go_ret2
      exact ⟨congrArg Ending.returned hV.out.symm, hg⟩
  · by_cases hd : d.size ≤ 96
    · have hok : Cn.ok ⟨e, q, f, l, d.data.toList⟩ := ⟨by show 0 ≤ e; omega, by show e ≤ 1099511627776; omega, by show 0 ≤ q; omega, by show q ≤ 1099511627776; omega, by rw [toList_len]; exact hd⟩
      have hbody := body_assoc ⟨e, q, f, l, d.data.toList⟩
      have hlen := Cn.body_le _ hok
      have hV : EncV ⟨e, q, f, l, d.data.toList⟩ = .tuple #[.string ⟨(Cn.body ⟨e, q, f, l, d.data.toList⟩ ++ Cn.le4 (Plain.crc (Cn.body ⟨e, q, f, l, d.data.toList⟩))).toArray⟩, .int .i64 0] := encV_ok _ hok
      have hadd := adds (Cn.body ⟨e, q, f, l, d.data.toList⟩) (Cn.le4 (Plain.crc (Cn.body ⟨e, q, f, l, d.data.toList⟩)))
      have HV := Lib.hid hV
      have hno : ¬ 9223372036854775807 < (Cn.body ⟨e, q, f, l, d.data.toList⟩).length + 4 := by omega
      have hcrc := Lib.hid (fun W : World => crc_ref ⟨(Cn.body ⟨e, q, f, l, d.data.toList⟩).toArray⟩ W (by rw [size_mk]; unfold maxLen; omega))
      rw [toList_mk] at hcrc
      have hk := Plain.crc_lt (Cn.body ⟨e, q, f, l, d.data.toList⟩)
      generalize hB : Cn.body ⟨e, q, f, l, d.data.toList⟩ = B at *
      generalize hF : ((Cn.flags f l : Nat) : Int) = F at *
      have hfl := flag_cases f l F hF
      have H0 := Lib.hid (fun (W : World) (s : W.cell? ⟨w.heap.size, 0, none⟩ = some (.int .i64 e) ∧ W.cell? ⟨w.heap.size, 1, none⟩ = some (.int .i64 q) ∧ W.cell? ⟨w.heap.size, 4, none⟩ = some (.string d) ∧ w.heap.size < W.heap.size ∧ Below w.heap.size w W) => chunk_held (code_ref e W) s)
      have H1 := Lib.hid (fun (W : World) (s : W.cell? ⟨w.heap.size, 0, none⟩ = some (.int .i64 e) ∧ W.cell? ⟨w.heap.size, 1, none⟩ = some (.int .i64 q) ∧ W.cell? ⟨w.heap.size, 4, none⟩ = some (.string d) ∧ w.heap.size < W.heap.size ∧ Below w.heap.size w W) => chunk_held (code_ref q W) s)
      have H2 := Lib.hid (fun (W : World) (s : W.cell? ⟨w.heap.size, 0, none⟩ = some (.int .i64 e) ∧ W.cell? ⟨w.heap.size, 1, none⟩ = some (.int .i64 q) ∧ W.cell? ⟨w.heap.size, 4, none⟩ = some (.string d) ∧ w.heap.size < W.heap.size ∧ Below w.heap.size w W) => chunk_held (code_ref F W) s)
      have H3 := Lib.hid (fun (W : World) (s : W.cell? ⟨w.heap.size, 0, none⟩ = some (.int .i64 e) ∧ W.cell? ⟨w.heap.size, 1, none⟩ = some (.int .i64 q) ∧ W.cell? ⟨w.heap.size, 4, none⟩ = some (.string d) ∧ w.heap.size < W.heap.size ∧ Below w.heap.size w W) => chunk_held (texted_ref d W (by omega)) s)
      have hl0 := Pk.code_len8 _ (Pk.cl_le e)
      have hl1 := Pk.code_len8 _ (Pk.cl_le q)
      have hl2 := Pk.code_len8 _ (Pk.cl_le F)
      have hl3 : (Pk.texted d.data.toList).length ≤ 4194304 := by
        have := Pk.code_len8 d.data.toList.length (by simp; omega)
        simp only [Pk.texted, List.length_append, toList_len] at this ⊢
        omega
      have hcat1 := adds (Pk.code (Pk.cl e)) (Pk.code (Pk.cl q))
      have hcat2 := adds (Pk.code (Pk.cl e) ++ Pk.code (Pk.cl q)) (Pk.code (Pk.cl F))
      have hcat3 := adds (Pk.code (Pk.cl e) ++ Pk.code (Pk.cl q) ++ Pk.code (Pk.cl F)) (Pk.texted d.data.toList)
      have hbody' : B = Pk.code (Pk.cl e) ++ Pk.code (Pk.cl q) ++ Pk.code (Pk.cl F) ++ Pk.texted d.data.toList := hbody
      rw [← hbody'] at hcat3
      clear hbody hbody' hok hV hB hF
      have hq1 : (Pk.code (Pk.cl e) ++ Pk.code (Pk.cl q)).length ≤ 16 := by rw [List.length_append]; omega
      have hq2 : (Pk.code (Pk.cl e) ++ Pk.code (Pk.cl q) ++ Pk.code (Pk.cl F)).length ≤ 24 := by rw [List.length_append]; omega
      generalize Pk.code (Pk.cl e) ++ Pk.code (Pk.cl q) ++ Pk.code (Pk.cl F) = q012 at *
      generalize Pk.code (Pk.cl e) ++ Pk.code (Pk.cl q) = q01 at *
      generalize Pk.code (Pk.cl e) = q0 at *
      generalize Pk.code (Pk.cl q) = q1 at *
      generalize Pk.code (Pk.cl F) = q2 at *
      generalize Pk.texted d.data.toList = q3 at *
      have n1 := chunk_len (a := q0) (b := q1) (by omega) (by omega)
      have n2 := chunk_len (a := q01) (b := q2) (by omega) (by omega)
      have n3 := chunk_len (a := q012) (b := q3) (by omega) (by omega)
      have h1 : 0 ≤ e := by omega
      have h2 : e ≤ 1099511627776 := by omega
      have h3 : 0 ≤ q := by omega
      have h4 : q ≤ 1099511627776 := by omega
      have h5 : (d.size : Int) ≤ 96 := by omega
      generalize Plain.crc B = K at *
      clear harg hd hl0 hl1 hl2 hl3 hq1 hq2 d2 d3
      obtain ⟨i0, hi, hz0, hz1, hz2⟩ := info_parts info_u8
      rcases hfl with ⟨rfl, rfl, rfl⟩ | ⟨rfl, rfl, rfl⟩ | ⟨rfl, rfl, rfl⟩ | ⟨rfl, rfl, rfl⟩
      · obtain ⟨d0, d1, d2, d3, d4⟩ := five hb
        go_enter Tryz.func78, Tryz.ntmps78
        go_wp2_with fail
        generalize w.alloc (.cells (ChC e q false false d) 95) = w1 at *
        go_region_held3 (fun W => W.cell? ⟨w.heap.size, 0, none⟩ = some (.int .i64 e) ∧ W.cell? ⟨w.heap.size, 1, none⟩ = some (.int .i64 q) ∧ W.cell? ⟨w.heap.size, 4, none⟩ = some (.string d) ∧ w.heap.size < W.heap.size ∧ Below w.heap.size w W) (first | assumption | exact ⟨d0, d1, d4, hsz, hg.drew⟩ | go_keep)
          (first
            | (go_at_call 109; (with_reducible refine (H0.out _ (by assumption)).mono ?_); rintro x w2 ⟨rfl, s2⟩)
            | (go_at_call 109; (with_reducible refine (H1.out _ (by assumption)).mono ?_); rintro x w2 ⟨rfl, s2⟩)
            | (go_at_call 109; (with_reducible refine (H2.out _ (by assumption)).mono ?_); rintro x w2 ⟨rfl, s2⟩)
            | (go_at_call 110; refine (H3.out _ (by assumption)).mono ?_; rintro x w3 ⟨rfl, s3⟩))
        clear hb hg hsz d0 d1 d2 d3 d4 H0 H1 H2 H3 hcat1 hcat2 hcat3
        have hbel := s3.2.2.2.2
        clear s3
        rename_i hHeld
        clear hHeld
        go_wp2_with (go_at_call 111; refine (hcrc.out _).mono ?_; rintro x w4 ⟨rfl, rfl⟩)
        go_loopw [6, 7, 8] (Le4Loop w.heap.size K w) (fun _ _ i _ => 4 - (intOf i).toNat)
        case atStart => exact ⟨0, K, [], by omega, rfl, rfl, hk, rfl, rfl, own_down (own_empty w3) hbel.size, hbel.alloc hbel.size _⟩
        case round =>
          obtain ⟨k, x, pre, hk4, rfl, rfl, hx, hpk, hpre, hown, hbel⟩ := hrel
          by_cases hlt : k < 4
          · subst hpk
            have hpl : pre.length ≤ 1099511627776 := by omega
            have hy := byte256 x
            have HS := Lib.hid (le4_step hlt hpre)
            clear hpre
            go_wp2_with (at_builtin; refine wpList_append_lies _ rfl (.tmp 58) (.tmp 62) 37 rfl w.heap.size 5 i0 (.int .u8 0) 1 1 Tryz.underlying37 hi hz0 hz1 hz2 rfl (by decide) u7 pre.length _ rfl (hown.alloc _) ⟨wr.heap.size, 0, none⟩ 1 1 [.int .u8 ((x : Int) % 256)] rfl rfl (cell_one_new wr _ 5) (one_cell _) (by decide) (room_max _ hpl) (room_bytes _ hpl) (base_le hbel (Nat.le_refl _) _) _ rfl ?_; intro g1 cap1 w1 hown1 hgrow1 _ _)
            have hown2 := own_up hy hown1
            have hbel2 := below_up hbel (Nat.le_refl _) _ hgrow1 (fun j hj => (hown.lt j hj).1)
            clear hgrow1 hown1 hown hbel
            go_wp2_with fail
            go_roundw
            case rel => exact ⟨pre.length + 1, x / 256, _, by omega, by go_num, by go_num, by omega, by simp, HS.out, hown2, hbel2⟩
            case measure => simp [intOf]; omega
          · obtain rfl : k = 4 := by omega
            have hcv := le4_back (four_take hpre) hpk hown
            clear hpre hown
            go_wp2_with fail
            go_ret2
            exact ⟨congrArg Ending.returned HV.out.symm, hbel⟩
      · obtain ⟨d0, d1, d2, d3, d4⟩ := five hb
        go_enter Tryz.func78, Tryz.ntmps78
        go_wp2_with fail
        generalize w.alloc (.cells (ChC e q true false d) 95) = w1 at *
        go_region_held3 (fun W => W.cell? ⟨w.heap.size, 0, none⟩ = some (.int .i64 e) ∧ W.cell? ⟨w.heap.size, 1, none⟩ = some (.int .i64 q) ∧ W.cell? ⟨w.heap.size, 4, none⟩ = some (.string d) ∧ w.heap.size < W.heap.size ∧ Below w.heap.size w W) (first | assumption | exact ⟨d0, d1, d4, hsz, hg.drew⟩ | go_keep)
          (first
            | (go_at_call 109; (with_reducible refine (H0.out _ (by assumption)).mono ?_); rintro x w2 ⟨rfl, s2⟩)
            | (go_at_call 109; (with_reducible refine (H1.out _ (by assumption)).mono ?_); rintro x w2 ⟨rfl, s2⟩)
            | (go_at_call 109; (with_reducible refine (H2.out _ (by assumption)).mono ?_); rintro x w2 ⟨rfl, s2⟩)
            | (go_at_call 110; refine (H3.out _ (by assumption)).mono ?_; rintro x w3 ⟨rfl, s3⟩))
        clear hb hg hsz d0 d1 d2 d3 d4 H0 H1 H2 H3 hcat1 hcat2 hcat3
        have hbel := s3.2.2.2.2
        clear s3
        rename_i hHeld
        clear hHeld
        go_wp2_with (go_at_call 111; refine (hcrc.out _).mono ?_; rintro x w4 ⟨rfl, rfl⟩)
        go_loopw [6, 7, 8] (Le4Loop w.heap.size K w) (fun _ _ i _ => 4 - (intOf i).toNat)
        case atStart => exact ⟨0, K, [], by omega, rfl, rfl, hk, rfl, rfl, own_down (own_empty w3) hbel.size, hbel.alloc hbel.size _⟩
        case round =>
          obtain ⟨k, x, pre, hk4, rfl, rfl, hx, hpk, hpre, hown, hbel⟩ := hrel
          by_cases hlt : k < 4
          · subst hpk
            have hpl : pre.length ≤ 1099511627776 := by omega
            have hy := byte256 x
            have HS := Lib.hid (le4_step hlt hpre)
            clear hpre
            go_wp2_with (at_builtin; refine wpList_append_lies _ rfl (.tmp 58) (.tmp 62) 37 rfl w.heap.size 5 i0 (.int .u8 0) 1 1 Tryz.underlying37 hi hz0 hz1 hz2 rfl (by decide) u7 pre.length _ rfl (hown.alloc _) ⟨wr.heap.size, 0, none⟩ 1 1 [.int .u8 ((x : Int) % 256)] rfl rfl (cell_one_new wr _ 5) (one_cell _) (by decide) (room_max _ hpl) (room_bytes _ hpl) (base_le hbel (Nat.le_refl _) _) _ rfl ?_; intro g1 cap1 w1 hown1 hgrow1 _ _)
            have hown2 := own_up hy hown1
            have hbel2 := below_up hbel (Nat.le_refl _) _ hgrow1 (fun j hj => (hown.lt j hj).1)
            clear hgrow1 hown1 hown hbel
            go_wp2_with fail
            go_roundw
            case rel => exact ⟨pre.length + 1, x / 256, _, by omega, by go_num, by go_num, by omega, by simp, HS.out, hown2, hbel2⟩
            case measure => simp [intOf]; omega
          · obtain rfl : k = 4 := by omega
            have hcv := le4_back (four_take hpre) hpk hown
            clear hpre hown
            go_wp2_with fail
            go_ret2
            exact ⟨congrArg Ending.returned HV.out.symm, hbel⟩
      · obtain ⟨d0, d1, d2, d3, d4⟩ := five hb
        go_enter Tryz.func78, Tryz.ntmps78
        go_wp2_with fail
        generalize w.alloc (.cells (ChC e q false true d) 95) = w1 at *
        go_region_held3 (fun W => W.cell? ⟨w.heap.size, 0, none⟩ = some (.int .i64 e) ∧ W.cell? ⟨w.heap.size, 1, none⟩ = some (.int .i64 q) ∧ W.cell? ⟨w.heap.size, 4, none⟩ = some (.string d) ∧ w.heap.size < W.heap.size ∧ Below w.heap.size w W) (first | assumption | exact ⟨d0, d1, d4, hsz, hg.drew⟩ | go_keep)
          (first
            | (go_at_call 109; (with_reducible refine (H0.out _ (by assumption)).mono ?_); rintro x w2 ⟨rfl, s2⟩)
            | (go_at_call 109; (with_reducible refine (H1.out _ (by assumption)).mono ?_); rintro x w2 ⟨rfl, s2⟩)
            | (go_at_call 109; (with_reducible refine (H2.out _ (by assumption)).mono ?_); rintro x w2 ⟨rfl, s2⟩)
            | (go_at_call 110; refine (H3.out _ (by assumption)).mono ?_; rintro x w3 ⟨rfl, s3⟩))
        clear hb hg hsz d0 d1 d2 d3 d4 H0 H1 H2 H3 hcat1 hcat2 hcat3
        have hbel := s3.2.2.2.2
        clear s3
        rename_i hHeld
        clear hHeld
        go_wp2_with (go_at_call 111; refine (hcrc.out _).mono ?_; rintro x w4 ⟨rfl, rfl⟩)
        go_loopw [6, 7, 8] (Le4Loop w.heap.size K w) (fun _ _ i _ => 4 - (intOf i).toNat)
        case atStart => exact ⟨0, K, [], by omega, rfl, rfl, hk, rfl, rfl, own_down (own_empty w3) hbel.size, hbel.alloc hbel.size _⟩
        case round =>
          obtain ⟨k, x, pre, hk4, rfl, rfl, hx, hpk, hpre, hown, hbel⟩ := hrel
          by_cases hlt : k < 4
          · subst hpk
            have hpl : pre.length ≤ 1099511627776 := by omega
            have hy := byte256 x
            have HS := Lib.hid (le4_step hlt hpre)
            clear hpre
            go_wp2_with (at_builtin; refine wpList_append_lies _ rfl (.tmp 58) (.tmp 62) 37 rfl w.heap.size 5 i0 (.int .u8 0) 1 1 Tryz.underlying37 hi hz0 hz1 hz2 rfl (by decide) u7 pre.length _ rfl (hown.alloc _) ⟨wr.heap.size, 0, none⟩ 1 1 [.int .u8 ((x : Int) % 256)] rfl rfl (cell_one_new wr _ 5) (one_cell _) (by decide) (room_max _ hpl) (room_bytes _ hpl) (base_le hbel (Nat.le_refl _) _) _ rfl ?_; intro g1 cap1 w1 hown1 hgrow1 _ _)
            have hown2 := own_up hy hown1
            have hbel2 := below_up hbel (Nat.le_refl _) _ hgrow1 (fun j hj => (hown.lt j hj).1)
            clear hgrow1 hown1 hown hbel
            go_wp2_with fail
            go_roundw
            case rel => exact ⟨pre.length + 1, x / 256, _, by omega, by go_num, by go_num, by omega, by simp, HS.out, hown2, hbel2⟩
            case measure => simp [intOf]; omega
          · obtain rfl : k = 4 := by omega
            have hcv := le4_back (four_take hpre) hpk hown
            clear hpre hown
            go_wp2_with fail
            go_ret2
            exact ⟨congrArg Ending.returned HV.out.symm, hbel⟩
      · obtain ⟨d0, d1, d2, d3, d4⟩ := five hb
        go_enter Tryz.func78, Tryz.ntmps78
        go_wp2_with fail
        generalize w.alloc (.cells (ChC e q true true d) 95) = w1 at *
        go_region_held3 (fun W => W.cell? ⟨w.heap.size, 0, none⟩ = some (.int .i64 e) ∧ W.cell? ⟨w.heap.size, 1, none⟩ = some (.int .i64 q) ∧ W.cell? ⟨w.heap.size, 4, none⟩ = some (.string d) ∧ w.heap.size < W.heap.size ∧ Below w.heap.size w W) (first | assumption | exact ⟨d0, d1, d4, hsz, hg.drew⟩ | go_keep)
          (first
            | (go_at_call 109; (with_reducible refine (H0.out _ (by assumption)).mono ?_); rintro x w2 ⟨rfl, s2⟩)
            | (go_at_call 109; (with_reducible refine (H1.out _ (by assumption)).mono ?_); rintro x w2 ⟨rfl, s2⟩)
            | (go_at_call 109; (with_reducible refine (H2.out _ (by assumption)).mono ?_); rintro x w2 ⟨rfl, s2⟩)
            | (go_at_call 110; refine (H3.out _ (by assumption)).mono ?_; rintro x w3 ⟨rfl, s3⟩))
        clear hb hg hsz d0 d1 d2 d3 d4 H0 H1 H2 H3 hcat1 hcat2 hcat3
        have hbel := s3.2.2.2.2
        clear s3
        rename_i hHeld
        clear hHeld
        go_wp2_with (go_at_call 111; refine (hcrc.out _).mono ?_; rintro x w4 ⟨rfl, rfl⟩)
        go_loopw [6, 7, 8] (Le4Loop w.heap.size K w) (fun _ _ i _ => 4 - (intOf i).toNat)
        case atStart => exact ⟨0, K, [], by omega, rfl, rfl, hk, rfl, rfl, own_down (own_empty w3) hbel.size, hbel.alloc hbel.size _⟩
        case round =>
          obtain ⟨k, x, pre, hk4, rfl, rfl, hx, hpk, hpre, hown, hbel⟩ := hrel
          by_cases hlt : k < 4
          · subst hpk
            have hpl : pre.length ≤ 1099511627776 := by omega
            have hy := byte256 x
            have HS := Lib.hid (le4_step hlt hpre)
            clear hpre
            go_wp2_with (at_builtin; refine wpList_append_lies _ rfl (.tmp 58) (.tmp 62) 37 rfl w.heap.size 5 i0 (.int .u8 0) 1 1 Tryz.underlying37 hi hz0 hz1 hz2 rfl (by decide) u7 pre.length _ rfl (hown.alloc _) ⟨wr.heap.size, 0, none⟩ 1 1 [.int .u8 ((x : Int) % 256)] rfl rfl (cell_one_new wr _ 5) (one_cell _) (by decide) (room_max _ hpl) (room_bytes _ hpl) (base_le hbel (Nat.le_refl _) _) _ rfl ?_; intro g1 cap1 w1 hown1 hgrow1 _ _)
            have hown2 := own_up hy hown1
            have hbel2 := below_up hbel (Nat.le_refl _) _ hgrow1 (fun j hj => (hown.lt j hj).1)
            clear hgrow1 hown1 hown hbel
            go_wp2_with fail
            go_roundw
            case rel => exact ⟨pre.length + 1, x / 256, _, by omega, by go_num, by go_num, by omega, by simp, HS.out, hown2, hbel2⟩
            case measure => simp [intOf]; omega
          · obtain rfl : k = 4 := by omega
            have hcv := le4_back (four_take hpre) hpk hown
            clear hpre hown
            go_wp2_with fail
            go_ret2
            exact ⟨congrArg Ending.returned HV.out.symm, hbel⟩
    · have hV := Lib.hid (encV_size ⟨e, q, f, l, d.data.toList⟩ harg (by show 96 < d.data.toList.length; rw [toList_len]; omega))
      have h1 : 0 ≤ e := by omega
      have h2 : e ≤ 1099511627776 := by omega
      have h3 : 0 ≤ q := by omega
      have h4 : q ≤ 1099511627776 := by omega
      have h5 : 96 < (d.size : Int) := by omega
      clear hb hsz harg hd d2 d3
      go_enter Tryz.func78, Tryz.ntmps78
      go_wp2_with fail
      go_ret2
      exact ⟨congrArg Ending.returned hV.out.symm, hg⟩

end Go.Proofs.YtimcepoleboldaaGreatDoor
