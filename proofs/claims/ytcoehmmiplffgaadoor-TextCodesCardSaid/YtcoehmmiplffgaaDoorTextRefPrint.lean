/- The document's text: print. -/
import Derived.Test.YtcoehmmiplffgaaDoorTextRefPr
namespace Go.Proofs.YtcoehmmiplffgaaDoor
open Go.ChangeShapes Go.WideShapes Go.RowKit Go.Deep

/-- What may be printed with room to spare, arguments too. -/
structure SmalR (bs : List (List Ir.In)) : Prop where
  count : bs.length + Ir.count bs ≤ 5000
  ins : ∀ b ∈ bs, ∀ x ∈ b, Sm x
theorem SmalR.smal {bs : List (List Ir.In)} (h : SmalR bs) : Smal bs := ⟨h.count, fun b hb x hx => ⟨(h.ins b hb x hx).1, (h.ins b hb x hx).2.1, (h.ins b hb x hx).2.2.1⟩⟩

theorem nums_ge (code : Bool) (x : Ir.In) : 1 ≤ (numsOf code x).length := by
  rcases numsOf_ways code x with ⟨-, hu⟩ | ⟨-, hu⟩ | ⟨-, hu⟩ | ⟨-, hu⟩ | ⟨-, -, hu⟩ | ⟨-, -, hu⟩ | ⟨-, hu⟩ <;> rw [hu] <;> simp
theorem nums_le (code : Bool) (x : Ir.In) : (numsOf code x).length ≤ x.args.length + 3 := by
  rcases numsOf_ways code x with ⟨-, hu⟩ | ⟨-, hu⟩ | ⟨-, hu⟩ | ⟨-, hu⟩ | ⟨-, -, hu⟩ | ⟨-, -, hu⟩ | ⟨-, hu⟩ <;> rw [hu] <;> simp
theorem nums_in64 {code : Bool} {x : Ir.In} {w : World} {cs : List Value} (h : InR w cs x) : In64 (numsOf code x) := by
  obtain ⟨sl, -, hn, -, hd, ha, hb⟩ := h
  have hargs := hn.in64
  intro n hm
  rcases numsOf_ways code x with ⟨-, hu⟩ | ⟨-, hu⟩ | ⟨-, hu⟩ | ⟨-, hu⟩ | ⟨-, -, hu⟩ | ⟨-, -, hu⟩ | ⟨-, hu⟩ <;> rw [hu] at hm <;> simp only [List.mem_cons, List.mem_nil_iff, or_false] at hm
  · rcases hm with rfl | rfl | rfl <;> assumption
  · rcases hm with rfl | rfl <;> assumption
  · subst hm; assumption
  · rcases hm with rfl | rfl | rfl <;> assumption
  · rcases hm with rfl | rfl <;> assumption
  · rcases hm with rfl | hm
    · assumption
    · exact hargs n hm
  · rcases hm with rfl | rfl <;> assumption

/-- The document's line of an instruction. -/
theorem rline_ins (code : Bool) (x : Ir.In) (v : Value) (w : World) (hv : Nums w v (numsOf code x)) (hs : Sm x) :
    Calls Tryd.prog 21 #[.string ⟨(Tx.word x.op code).toArray⟩, .string x.name, .bool (x.op == 11), .int .i64 1, v] w (StrPost (if Tx.insE code x = 0 then Tx.insW code x else []) (Tx.insE code x) w) := by
  have h := rline_any ⟨(Tx.word x.op code).toArray⟩ x.name (x.op == 11) 1 v (numsOf code x) w hv (fun _ => nums_ge code x) (by have := nums_le code x; have := hs.1; omega) (by rw [size_mk]; exact word_len _ _) hs.2.1
  have e1 : (⟨(Tx.word x.op code).toArray⟩ : ByteArray).data.toList = Tx.word x.op code := by simp
  rw [e1, rl_ins] at h
  have e2 : rlW (Tx.word x.op code) (x.op == 11) 1 x.name (numsOf code x) = if Tx.insE code x = 0 then Tx.insW code x else [] := by
    by_cases h0 : Tx.insE code x = 0
    · rw [if_pos h0, rl_insW h0]
    · rw [if_neg h0, rl_insW0 h0]
  rw [e2] at h
  exact h

/-- What print gives. -/
def rprW (code : Bool) (first : List UInt8) (bs : List (List Ir.In)) : List UInt8 := if Tx.blksE code bs = 0 then first ++ Tx.blksW code bs else []

set_option maxRecDepth 100000 in
set_option maxHeartbeats 8000000 in
theorem rprint_any (code : Bool) (first : List UInt8) (bv : Value) (bs : List (List Ir.In)) (w : World) (hv : Blks w bv bs) (hs : SmalR bs) (hf : first.length ≤ 1000000000) :
    Calls Tryd.prog 22 #[.string (Tx.mkB first), bv, .bool code] w fun e w' => e = .returned (.tuple #[.string (Tx.mkB (rprW code first bs)), .int .i64 (Tx.blksE code bs)]) ∧ Below w.heap.size w w' := by
  obtain ⟨A, cap, hbv⟩ := hv.form
  subst hbv
  have HV := Lib.hid (And.intro hv (And.intro hs hf))
  have hbl : (bs.length : Int) ≤ 5000 := by have := hs.count; omega
  have hlen : ∀ k, (first ++ Tx.blksW code (bs.take k)).length ≤ 40000000000000 := fun k => by
    have h1 := blksW_len (code := code) (bs := bs.take k) (fun b hb => hs.ins b (List.mem_of_mem_take hb))
    have h2 := Ir.count_take bs k
    have h3 := hs.count
    have h4 : (bs.take k).length ≤ bs.length := by rw [List.length_take]; omega
    rw [List.length_append]
    omega
  have HLEN := Lib.hid hlen
  clear hv hs hf hlen
  go_enter Tryd.func22, Tryd.ntmps22
  go_wp2_with fail
  go_loopw [8, 9] (fun s i wr => ∃ k : Nat, k ≤ bs.length ∧ i = .int .i64 (k : Int) ∧ s = .string (Tx.mkB (first ++ Tx.blksW code (bs.take k))) ∧ Below w.heap.size w wr ∧ Hid (Tx.blksE code bs = Tx.blksE code (bs.drop k))) (fun _ i _ => bs.length - (intOf i).toNat)
  case atStart => exact ⟨0, Nat.zero_le _, rfl, by simp [Tx.blksW], Below.refl _ _, Lib.hid rfl⟩
  case round =>
    obtain ⟨k, hk, rfl, rfl, hb, HE⟩ := hrel
    have HB := Lib.hid hb
    by_cases hlt : k < bs.length
    · have hki : (k : Int) < (bs.length : Int) := by omega
      obtain ⟨b, hbk⟩ : ∃ b, bs[k]? = some b := ⟨_, List.getElem?_eq_getElem hlt⟩
      obtain ⟨bl, off, D, cbp, rfl, l1, d0, hI⟩ := HV.out.1.at hbk
      have hbi : (b.length : Int) ≤ 5000 := by have := HV.out.2.1.count; have := Ir.count_up hbk; have := Ir.count_take bs (k + 1); omega
      have hblk : b.length ≤ 5000 := by omega
      obtain ⟨S, hS⟩ : ∃ S, S = Tx.mkB (first ++ Tx.blksW code (bs.take k)) := ⟨_, rfl⟩
      have hSs : S.size ≤ 40000000000000 := by rw [hS, mkB_size]; exact HLEN.out k
      obtain ⟨S1, hS1⟩ : ∃ S1, S1 = S ++ (⟨#[98, 108, 111, 99, 107, 10]⟩ : ByteArray) := ⟨_, rfl⟩
      have q1 : ¬ 9223372036854775807 < S.size + 6 := by omega
      have hS1' : S1 = Tx.mkB (first ++ Tx.blksW code (bs.take k) ++ (Tx.blockW ++ [10]) ++ (b.take 0).flatMap (Tx.insW code)) := by
        rw [hS1, hS, catB]
        simp [Tx.blockW]
      have hblen : ∀ m, (first ++ Tx.blksW code (bs.take k) ++ (Tx.blockW ++ [10]) ++ (b.take m).flatMap (Tx.insW code)).length ≤ 80000000000000 := fun m => by
        have h1 := HLEN.out k
        have h2 := blkW_len (code := code) (b := b.take m) (fun x hx => HV.out.2.1.ins b (List.mem_of_getElem? hbk) x (List.mem_of_mem_take hx))
        have h3 : (b.take m).length ≤ b.length := by rw [List.length_take]; omega
        have h4 : (Tx.blockW ++ [10]).length = 6 := rfl
        rw [List.length_append, List.length_append, h4]
        omega
      have hnext : first ++ Tx.blksW code (bs.take (k + 1)) = first ++ Tx.blksW code (bs.take k) ++ (Tx.blockW ++ [10]) ++ b.flatMap (Tx.insW code) := by
        unfold Tx.blksW
        rw [flat_up hbk]
        simp [Tx.blkW]
      have HBB := Lib.hid (And.intro hbk (And.intro hnext (And.intro hblen (And.intro hS1' (And.intro l1 (And.intro d0 hI))))))
      have e1 := hS1.symm
      rw [← hS]
      clear hbk hnext hblen hS1' hI hS hS1 hb hblk
      have d1 := (HB.out.cell (p := ⟨bl, off + k, none⟩) l1).trans d0
      go_wp2_with fail
      clear d1
      go_loopw [8, 10] (fun s i wr => ∃ m : Nat, m ≤ b.length ∧ i = .int .i64 (m : Int) ∧ s = .string (Tx.mkB (first ++ Tx.blksW code (bs.take k) ++ (Tx.blockW ++ [10]) ++ (b.take m).flatMap (Tx.insW code))) ∧ Below w.heap.size w wr ∧ Hid (Tx.blkE code b = Tx.blkE code (b.drop m))) (fun _ i _ => b.length - (intOf i).toNat)
      case atStart => exact ⟨0, Nat.zero_le _, rfl, by rw [HBB.out.2.2.2.1], HB.out, Lib.hid rfl⟩
      case round =>
        clear HB
        obtain ⟨m, hm, rfl, rfl, hb, HF⟩ := hrel
        have HB := Lib.hid hb
        have d1 := (HB.out.cell (p := ⟨bl, off + k, none⟩) l1).trans d0
        by_cases hlt2 : m < b.length
        · have hmi : (m : Int) < (b.length : Int) := by omega
          obtain ⟨x, hx⟩ : ∃ x, b[m]? = some x := ⟨_, List.getElem?_eq_getElem hlt2⟩
          obtain ⟨bx, ox, F, fcp, rfl, l2, ⟨x0, x1, x2, x3, x4, x5⟩, hin⟩ := (HBB.out.2.2.2.2.2.2.below hb).at hx
          have hsm := HV.out.2.1.ins b (List.mem_of_getElem? HBB.out.1) x (List.mem_of_getElem? hx)
          have hb5 : Below wr.heap.size wr (wr.alloc (.cells (InsC x (.slice F x.args.length fcp)) 46)).drew := ((Below.refl _ _).alloc (Nat.le_refl _) _).drew
          have hbox := Blk.new wr 46 (InsC x (.slice F x.args.length fcp))
          obtain ⟨z0, z1, z2, z3, z4, z5⟩ := cells6 hbox
          have hbl5 : Below w.heap.size w (wr.alloc (.cells (InsC x (.slice F x.args.length fcp)) 46)).drew := hb.trans (hb5.mono hb.size)
          have HX := Lib.hid (And.intro hx (And.intro hsm (And.intro hbox (And.intro (hin.below hb5) hbl5))))
          have HWD := Lib.hid (rword_any x.op code (wr.alloc (.cells (InsC x (.slice F x.args.length fcp)) 46)).drew)
          have HNU := Lib.hid (fun (w4 : World) (h4 : Below (wr.alloc (.cells (InsC x (.slice F x.args.length fcp)) 46)).drew.heap.size (wr.alloc (.cells (InsC x (.slice F x.args.length fcp)) 46)).drew w4) => rnumbers_any x (.slice F x.args.length fcp) code w4 (HX.out.2.2.2.1.below h4) (by have := hsm.1; omega))
          obtain ⟨c, hc⟩ : ∃ c, c = Tx.insE code x := ⟨_, rfl⟩
          obtain ⟨T, hT⟩ : ∃ T, T = Tx.mkB (if Tx.insE code x = 0 then Tx.insW code x else []) := ⟨_, rfl⟩
          have HLI := Lib.hid (show ∀ (w5 : World) (v : Value) (base : Nat), RowI w5 base v (numsOf code x) → Calls Tryd.prog 21 #[.string ⟨(Tx.word x.op code).toArray⟩, .string x.name, .bool (x.op == 11), .int .i64 1, v] w5 (fun e w' => e = .returned (.tuple #[.string T, .int .i64 c]) ∧ w5 = w') from fun w5 v base hr => by
            rw [hT, hc]
            exact rline_ins code x v w5 (hr.nums (nums_in64 hin)) hsm)
          have HCT := Lib.hid (And.intro hc hT)
          obtain ⟨S, hS⟩ : ∃ S, S = Tx.mkB (first ++ Tx.blksW code (bs.take k) ++ (Tx.blockW ++ [10]) ++ (b.take m).flatMap (Tx.insW code)) := ⟨_, rfl⟩
          have hSs : S.size ≤ 80000000000000 := by rw [hS, mkB_size]; exact HBB.out.2.2.1 m
          rw [← hS]
          have HS := Lib.hid hS
          have HBX := Lib.hid hbox
          clear hx hsm hb5 hbox hbl5 hin hc hT hS hb
          go_upto_region 10 with fail
          go_region_held3 (fun W => W.cell? ⟨wr.heap.size, 0, none⟩ = some (.int .i64 x.op) ∧ W.cell? ⟨wr.heap.size, 1, none⟩ = some (.int .i64 x.d) ∧ W.cell? ⟨wr.heap.size, 2, none⟩ = some (.int .i64 x.a) ∧ W.cell? ⟨wr.heap.size, 3, none⟩ = some (.int .i64 x.b) ∧ W.cell? ⟨wr.heap.size, 4, none⟩ = some (.string x.name) ∧ W.cell? ⟨wr.heap.size, 5, none⟩ = some (.slice F x.args.length fcp)) (first | assumption | exact ⟨z0, z1, z2, z3, z4, z5⟩ | go_keep)
            (first
              | (go_at_call 31; (with_reducible refine HWD.out.mono ?_); rintro e4 w4 ⟨rfl, hb4⟩; have HN4 := Lib.hid (HNU.out w4 hb4); have HB4 := Lib.hid (And.intro hb4 (HBX.out.drew.older hb4 HBX.out.lt)); have g4 := cells6 HB4.out.2; clear hb4)
              | (go_at_call 32; (with_reducible refine HN4.out.mono ?_); rintro e5 w5 ⟨v5, rfl, hrow5, hb5⟩; have HL5 := Lib.hid (HLI.out w5 v5 _ hrow5); have HB5 := Lib.hid (And.intro hb5 (HB4.out.2.older hb5 HB4.out.2.lt)); have g5 := cells6 HB5.out.2; clear hb5 hrow5)
              | (go_at_call 21; (with_reducible refine HL5.out.mono ?_); rintro e6 w6 ⟨rfl, rfl⟩))
          have HBE := Lib.hid (show Below w.heap.size w w5 from (HX.out.2.2.2.2.trans (HB4.out.1.mono HX.out.2.2.2.2.size)).trans (HB5.out.1.mono (Nat.le_trans HX.out.2.2.2.2.size HB4.out.1.size)))
          by_cases h0 : c = 0
          · have h0' : (c != 0) = false := by simp [h0]
            have HNX := Lib.hid (show Tx.blkE code b = Tx.blkE code (b.drop (m + 1)) by rw [HF.out, blkE_at HX.out.1, if_pos (HCT.out.1.symm.trans h0)])
            obtain ⟨R, hR⟩ : ∃ R, R = S ++ T := ⟨_, rfl⟩
            have HR := Lib.hid (show R = Tx.mkB (first ++ Tx.blksW code (bs.take k) ++ (Tx.blockW ++ [10]) ++ (b.take (m + 1)).flatMap (Tx.insW code)) by
              rw [hR, HS.out, HCT.out.2, if_pos (HCT.out.1.symm.trans h0), mkB_append, flat_up HX.out.1]
              simp)
            have hTs : T.size ≤ 6000000000 := by rw [HCT.out.2, if_pos (HCT.out.1.symm.trans h0), mkB_size]; exact insW_len HX.out.2.1
            have q5 : ¬ 9223372036854775807 < S.size + T.size := by omega
            have e1 := hR.symm
            clear hR h0
            go_wp2_with fail
            go_roundw
            case rel => exact ⟨m + 1, by omega, by go_num, by rw [HR.out], HBE.out, Lib.hid HNX.out⟩
            case measure => simp [intOf]; omega
          · have h0' : (c != 0) = true := by simpa using h0
            have HEE := Lib.hid (show Tx.blksE code bs = c by
              have e1 : Tx.blkE code b = c := by rw [HF.out, blkE_at HX.out.1, if_neg (fun h => h0 (HCT.out.1.trans h))]; exact HCT.out.1.symm
              rw [HE.out, blksE_at HBB.out.1, if_neg (by rw [e1]; exact h0), e1])
            have HNE := Lib.hid (show rprW code first bs = [] by unfold rprW; rw [HEE.out, if_neg h0])
            clear h0
            go_wp2_with fail
            go_ret2
            exact ⟨by rw [HEE.out, HNE.out] <;> rfl, HBE.out⟩
        · obtain rfl : m = b.length := by omega
          have hb0 : Tx.blkE code b = 0 := by rw [HF.out, List.drop_of_length_le (Nat.le_refl _)]; rfl
          have HNX := Lib.hid (show Tx.blksE code bs = Tx.blksE code (bs.drop (k + 1)) by rw [HE.out, blksE_at HBB.out.1, if_pos hb0])
          have HR := Lib.hid (show first ++ Tx.blksW code (bs.take k) ++ (Tx.blockW ++ [10]) ++ (b.take b.length).flatMap (Tx.insW code) = first ++ Tx.blksW code (bs.take (k + 1)) by
            rw [HBB.out.2.1, List.take_of_length_le (Nat.le_refl _)])
          rw [HR.out]
          clear hb0 hb
          go_wp2_with fail
          go_roundw
          case rel => exact ⟨k + 1, by omega, by go_num, rfl, HB.out, Lib.hid HNX.out⟩
          case measure => simp [intOf]; omega
    · obtain rfl : k = bs.length := by omega
      have hE0 : Tx.blksE code bs = 0 := by rw [HE.out, List.drop_of_length_le (Nat.le_refl _)]; rfl
      have HE0 := Lib.hid hE0
      have HR := Lib.hid (show bs.take bs.length = bs from List.take_of_length_le (Nat.le_refl _))
      have HNE := Lib.hid (show rprW code first bs = first ++ Tx.blksW code bs by unfold rprW; rw [hE0, if_pos rfl])
      rw [HR.out]
      clear hE0 hb
      go_wp2_with fail
      go_ret2
      exact ⟨by rw [HE0.out, HNE.out] <;> rfl, HB.out⟩
end Go.Proofs.YtcoehmmiplffgaaDoor
