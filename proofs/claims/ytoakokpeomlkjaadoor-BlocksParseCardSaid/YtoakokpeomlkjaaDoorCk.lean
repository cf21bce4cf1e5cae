/- Layer 7 (blocks): what is opened, and what isn't: the program's and the document's. -/
import Derived.Test.YtoakokpeomlkjaaDoorCj
namespace Go.Proofs.YtoakokpeomlkjaaDoor
open Go.RowKit Go.Maps
namespace Bk
open Cr
theorem parts_of {w : World} {ao : Option Addr} {bs : List Nat} (hx : RdB w ao bs) (h4 : 4 ≤ bs.length) : ∃ g off, ao = some ⟨g, off, none⟩ ∧ RdB w (some ⟨g, off, none⟩) (bs.take (bs.length - 4)) ∧ RdB w (some ⟨g, off + (bs.take (bs.length - 4)).length, none⟩) (bs.drop (bs.length - 4)) ∧ (bs.drop (bs.length - 4)).length = 4 ∧ (bs.take (bs.length - 4)).length + 4 = bs.length := by
  obtain ⟨g, off, rfl, hc⟩ := hx.2.resolve_left (fun e => by rw [e] at h4; simp at h4)
  have hl : (bs.take (bs.length - 4)).length = bs.length - 4 := by simp
  have h1 := hx.part (by omega) 0 (bs.length - 4) (by omega)
  have h2 := hx.part (by omega) (bs.length - 4) 4 (by omega)
  rw [List.drop_zero, Nat.add_zero] at h1
  rw [List.take_of_length_le (by simp; omega)] at h2
  exact ⟨g, off, rfl, h1, by rw [hl]; exact h2, by simp; omega, by omega⟩
theorem rd_cap {w : World} {base : Nat} {v : Value} {bs : List Nat} {n : Nat} (h : w.ownsRow base 5 1 v n (valsB bs)) (hle : ∀ x ∈ bs, x ≤ 255) : ∃ ao cap, v = .slice ao bs.length cap ∧ RdB w ao bs ∧ bs.length ≤ cap := by
  obtain ⟨ao, cap, rfl, hr⟩ := rd_own h hle
  refine ⟨ao, cap, rfl, hr, ?_⟩
  rcases h.2 with ⟨e, h0⟩ | ⟨g, c, cur, e, _, _, hnc, _⟩
  · have e2 : bs.length = 0 := by injection e
    omega
  · have e2 : bs.length = n := by have := h.1; rw [valsB_len] at this; omega
    have e3 : cap = c := by injection e
    omega
set_option maxHeartbeats 3200000 in
theorem kOpen_good {w : World} (g off cap : Nat) (d t : List Nat) (hd : RdB w (some ⟨g, off, none⟩) d) (ht : RdB w (some ⟨g, off + d.length, none⟩) t) (h4 : t.length = 4) (hc : d.length + 4 ≤ cap) (hl : d.length + 4 ≤ 140737488355328) (hok : nm t = crc d) :
    Calls Tryd.prog 40 #[.slice (some ⟨g, off, none⟩) (d.length + 4) cap] w fun e w' => ∃ ao' cap', e = .returned (.tuple #[.slice ao' d.length cap', num 0]) ∧ RdB w' ao' d ∧ d.length ≤ cap' ∧ w.grownBy w' none := by
  have hks := kSum_ok (w := w) (some ⟨g, off, none⟩) cap d hd (by omega)
  have hq := le4_ne h4 ht.1 (crc d) (crc_lt hd.le)
  obtain ⟨g', o', e', hct⟩ := ht.2.resolve_left (fun e => by rw [e] at h4; simp at h4)
  simp at e'
  obtain ⟨rfl, rfl⟩ := e'
  have c0 := hct 0 (by omega)
  have c1 := hct 1 (by omega)
  have c2 := hct 2 (by omega)
  have c3 := hct 3 (by omega)
  rw [Nat.add_zero] at c0
  rw [Nat.add_assoc] at c1 c2 c3
  obtain ⟨w0, w1, w2, w3⟩ := hq.1 hok
  obtain ⟨T0, hT0⟩ : ∃ x, x = Cr.nth t 0 := ⟨_, rfl⟩
  rw [← hT0] at c0 w0
  clear hT0
  obtain ⟨T1, hT1⟩ : ∃ x, x = Cr.nth t 1 := ⟨_, rfl⟩
  rw [← hT1] at c1 w1
  clear hT1
  obtain ⟨T2, hT2⟩ : ∃ x, x = Cr.nth t 2 := ⟨_, rfl⟩
  rw [← hT2] at c2 w2
  clear hT2
  obtain ⟨T3, hT3⟩ : ∃ x, x = Cr.nth t 3 := ⟨_, rfl⟩
  rw [← hT3] at c3 w3
  clear hT3
  have q0 : ((T0 : Int) != (crc d : Int) % 256) = false := by simp only [bne_eq_false_iff_eq]; omega
  have q1 : ((T1 : Int) != (crc d : Int) / 256 % 256) = false := by simp only [bne_eq_false_iff_eq]; omega
  have q2 : ((T2 : Int) != (crc d : Int) / 65536 % 256) = false := by simp only [bne_eq_false_iff_eq]; omega
  have q3 : ((T3 : Int) != (crc d : Int) / 16777216 % 256) = false := by simp only [bne_eq_false_iff_eq]; omega
  have HK : Hid (Calls Tryd.prog 36 #[.slice (some ⟨g, off, none⟩) d.length cap] w _) := hks
  have hle := hd.le
  clear hct hq hks ht w0 w1 w2 w3 hok
  go_enter Tryd.func40, Tryd.ntmps40
  go_wp2_with fail
  refine HK.out.mono ?_
  rintro e w ⟨rfl, rfl⟩
  go_wp2_with (at_builtin; refine wpList_append_bytes rfl _ _ rfl rfl (some ⟨g, off, none⟩) d cap rfl hd (by omega) (fun e => by cases e) ?_; intro v1 w1 hown1 hg1)
  obtain ⟨ao', cap', rfl, hrd, hcp⟩ := rd_cap hown1 hle
  exact bodyPost_ret (v := .tuple #[.slice ao' d.length cap', num 0]) (by simp [results, Tryd.f40, go_sem]) rfl ⟨ao', cap', rfl, hrd, hcp, hg1⟩
set_option maxHeartbeats 1600000 in
theorem rSeal_cap {w : World} (ao : Option Addr) (cap : Nat) (bs : List Nat) (hx : RdB w ao bs) (hcap : ao = none → cap = 0) (hl : bs.length + 4 ≤ 140737488355328) :
    Calls Tryd.prog 19 #[.slice ao bs.length cap] w fun e w' => ∃ ao' cap', e = .returned (.slice ao' (bs ++ le4 (crc bs)).length cap') ∧ RdB w' ao' (bs ++ le4 (crc bs)) ∧ (bs ++ le4 (crc bs)).length ≤ cap' ∧ w.grownBy w' none := by
  obtain ⟨i0, hi, hz0, hz1, hz2⟩ := info_parts Tryd.info5
  have hsm := fun (w' : World) (hg : w.grownBy w' none) => kSum_ok (w := w') ao cap bs (hx.more hg) (by omega)
  have HS : Hid _ := hsm
  have hle := hx.le
  clear hsm
  go_enter Tryd.func19, Tryd.ntmps19
  go_wp2_with (at_builtin; refine wpList_append_bytes rfl _ _ rfl rfl ao bs cap rfl hx (by omega) hcap ?_; intro v1 w1 hown1 hg1)
  refine (HS.out w1 hg1).mono ?_
  rintro e w' ⟨rfl, rfl⟩
  have E4 : Hid (#[Value.int .u8 ((crc bs : Int) % 256), .int .u8 ((crc bs : Int) / 256 % 256), .int .u8 ((crc bs : Int) / 65536 % 256), .int .u8 ((crc bs : Int) / 16777216 % 256)] = (valsB (le4 (crc bs))).toArray) := by simp [Hid, valsB, le4]
  have hsz := hg1.size
  have hown2 := hown1.alloc (.cells (valsB (le4 (crc bs))).toArray 5)
  have hc4 : ∀ j u, (valsB (le4 (crc bs)))[j]? = some u → (w'.alloc (.cells (valsB (le4 (crc bs))).toArray 5)).cell? ((⟨w'.heap.size, 0, none⟩ : Addr).add j) = some u := fun j u hj => by
    rw [addr_add', Nat.zero_add, cell_row (heap_alloc_new w' _), hj]
  have HC : Hid _ := hc4
  have HW : Hid _ := hown2
  have HG : Hid _ := World.grownBy_alloc w' (.cells (valsB (le4 (crc bs))).toArray 5) none
  clear hown2 hc4 HS
  go_wp2_with (at_builtin; rw [E4.out]; refine wpList_append_own _ rfl _ _ 43 rfl w.heap.size 5 i0 (.int .u8 0) 1 1 Tryd.underlying43 hi hz0 hz1 hz2 rfl (by decide) _ _ _ rfl HW.out ⟨w'.heap.size, 0, none⟩ 4 4 (valsB (le4 (crc bs))) rfl rfl HC.out (valsB_one _) (by unfold maxLen; omega) (by omega) (by simp; omega) ?_; intro v2 w2 hown2 hgrow2 _)
  rw [← valsB_app] at hown2
  obtain ⟨ao', cap', rfl, hrd, hcp⟩ := rd_cap hown2 (mem_seal hle _)
  have hgw : w.grownBy w2 none := by
    have hob := hown1.lt
    have hs2 := hgrow2.size
    simp at hs2
    have hgg := grownBy_trans hg1 HG.out
    refine ⟨hgrow2.os.trans hgg.os, hgrow2.tape.trans hgg.tape, hgrow2.output.trans hgg.output, by omega, fun k hk _ => ?_⟩
    rw [hgrow2.block k (by simp; omega) (fun e => by have := (hob k e.symm).1; omega)]
    exact hgg.block k hk (by simp)
  clear hown2 hgrow2 HC HW HG
  go_wp2
  go_ret
  exact ⟨ao', cap', rfl, hrd, hcp, hgw⟩
/-- What is opened of bytes. -/
def OpensTo (b d : List Nat) : Prop := 4 ≤ b.length ∧ d = b.take (b.length - 4) ∧ Cr.nm (b.drop (b.length - 4)) = Cr.crc d
/-- Bytes are opened, or refused: both. -/
theorem opens_two {w : World} (hG : Glob w) (ao : Option Addr) (cap : Nat) (b : List Nat) (hx : RdB w ao b) (hc : b.length ≤ cap) (hl : b.length ≤ 140737488355328) :
    (∃ g off d t, ao = some ⟨g, off, none⟩ ∧ b.length = d.length + 4 ∧ RdB w (some ⟨g, off, none⟩) d ∧ RdB w (some ⟨g, off + d.length, none⟩) t ∧ t.length = 4 ∧ nm t = crc d) ∨
    (∀ V, w.grownBy V none → Calls Tryd.prog 37 #[.slice ao b.length cap] V (fun e w' => e = .returned (.tuple #[.slice none 0 0, num 30]) ∧ V.grownBy w' none) ∧ Calls Tryd.prog 40 #[.slice ao b.length cap] V (fun e w' => e = .returned (.tuple #[.slice none 0 0, num 30]) ∧ V.grownBy w' none)) := by
  by_cases h4 : 4 ≤ b.length
  · obtain ⟨g, off, rfl, hd, ht, hl4, hdl⟩ := parts_of hx h4
    by_cases hk : nm (b.drop (b.length - 4)) = crc (b.take (b.length - 4))
    · exact .inl ⟨g, off, _, _, rfl, hdl.symm, hd, ht, hl4, hk⟩
    · refine .inr fun V hV => ?_
      have h1 := open_ok (hG.more hV) g off cap _ _ (hd.more hV) (ht.more hV) hl4 (by omega) (by omega)
      have h2 := kOpen_ok g off cap _ _ (hd.more hV) (ht.more hV) hl4 (by omega) (by omega)
      rw [hdl, decide_eq_false hk] at h1 h2
      exact ⟨h1, h2⟩
  · exact .inr fun V hV => ⟨open_short ao cap b (by omega), kOpen_short ao cap b (by omega)⟩
set_option maxRecDepth 100000 in
set_option maxHeartbeats 1600000 in
theorem Parse_shut {w : World} (ao : Option Addr) (len cap : Nat) (hO : ∀ V, w.grownBy V none → Calls Tryd.prog 37 #[.slice ao len cap] V (fun e w' => e = .returned (.tuple #[.slice none 0 0, num 30]) ∧ V.grownBy w' none)) :
    Calls Tryd.prog 20 #[.slice ao len cap] w (fun e w' => e = .returned (.tuple #[.pointer none, num 30]) ∧ w.grownBy w' none) := by
  refine (callsIn_wide (n := 3)).1 ?_
  have h0 : 1 ≤ 3 := by omega
  obtain ⟨V, hV⟩ : ∃ V, V = (w.alloc (.cells #[.pointer none] 24)).alloc (.cells #[num 0] 25) := ⟨_, rfl⟩
  have hg : w.grownBy V none := by rw [hV]; exact grownBy_alloc' (World.grownBy_alloc w _ none) _
  have b2 : Boxed V w.heap.size 24 (.pointer none) := by rw [hV]; exact (Boxed.new w _ _).alloc _
  have b3 : Boxed V (w.heap.size + 1) 25 (num 0) := by rw [hV]; have := Boxed.new (w.alloc (.cells #[.pointer none] 24)) 25 (num 0); rw [World.size_alloc] at this; exact this
  have HO := hide (hO V hg)
  have HV := hide hV
  clear hV hO
  refine callsIn_of_wp_marks Tryd.func20 rfl trivial ?_ rfl
  simp only [Tryd.ntmps20, List.size_toArray, List.length_cons, List.length_nil, Nat.reduceAdd, Nat.reduceSub, Array.replicate_succ, Array.replicate_zero, List.push_toArray, List.append_toArray, List.nil_append, List.cons_append]
  gi_wp2_with (first | (rw [← HV.out]; refine ⟨trivial, ?_⟩; gi_at_call 37; refine (callsIn_wide.2 HO.out).mono ?_; rintro e w2 ⟨rfl, hg2⟩; have b22 := b2.kept hg2 (by simp); have b33 := b3.kept hg2 (by simp); have g2 := b22.cell; have g2f := b22.frozen; have g3 := b33.cell; have g3f := b33.frozen; have y2 : Boxed ((w2.setCell ⟨w.heap.size, 0, none⟩ (.pointer none)).setCell ⟨w.heap.size + 1, 0, none⟩ (num 30)) w.heap.size 24 (.pointer none) := (b22.set _).other (by omega) _; have y3 : Boxed ((w2.setCell ⟨w.heap.size, 0, none⟩ (.pointer none)).setCell ⟨w.heap.size + 1, 0, none⟩ (num 30)) (w.heap.size + 1) 25 (num 30) := (b33.other (by omega) _).set _; have hL9 : Below w.heap.size w ((w2.setCell ⟨w.heap.size, 0, none⟩ (.pointer none)).setCell ⟨w.heap.size + 1, 0, none⟩ (num 30)) := ((below_of_grown (grownBy_trans hg hg2)).setCell (p := ⟨w.heap.size, 0, none⟩) (Nat.le_refl _) _).setCell (p := ⟨w.heap.size + 1, 0, none⟩) (by show w.heap.size ≤ w.heap.size + 1; omega) _; have HALL := hide (And.intro y2 (And.intro y3 hL9))))
  obtain ⟨y2, y3, hL9⟩ := HALL.out
  have z2 := y2.cell
  have z3 := y3.cell
  exact ⟨.tuple #[.pointer none, num 30], by simp [results, Tryd.f20, go_sem, z2, z3], rfl, grown_of_below hL9⟩
set_option maxHeartbeats 1600000 in
theorem kParse_shut {w : World} (ao : Option Addr) (len cap : Nat) (hO : Calls Tryd.prog 40 #[.slice ao len cap] w (fun e w' => e = .returned (.tuple #[.slice none 0 0, num 30]) ∧ w.grownBy w' none)) :
    Calls Tryd.prog 21 #[.slice ao len cap] w (fun e w' => e = .returned (.tuple #[.pointer none, num 30]) ∧ w.grownBy w' none) := by
  have HO := hide hO
  clear hO
  go_enter Tryd.func21, Tryd.ntmps21
  go_wp2_with fail
  refine HO.out.mono ?_
  rintro e w1 ⟨rfl, hg1⟩
  go_wp2
  go_ret2
  exact ⟨rfl, hg1⟩
end Bk
end Go.Proofs.YtoakokpeomlkjaaDoor
