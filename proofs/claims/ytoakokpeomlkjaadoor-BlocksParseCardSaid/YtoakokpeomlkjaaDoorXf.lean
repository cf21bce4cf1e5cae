/- The document's own Seal and Open; bytes as a string. -/
import Derived.Test.YtoakokpeomlkjaaDoorXe
import Derived.Laws.AppendOwnNone
namespace Go.Proofs.YtoakokpeomlkjaaDoor
open Go.RowKit
namespace Cr
/-- Bytes as a string. -/
def strB (bs : List Nat) : ByteArray := strOfNums (ints bs)
theorem conv_ok {w : World} {ao : Option Addr} {bs : List Nat} (h : RdB w ao bs) (cap : Nat) : (convert 43 9 (.slice ao bs.length cap)).run Tryd.prog w = .ok (.string (strB bs)) w := by
  rcases h.2 with rfl | ⟨g, off, rfl, hc⟩
  · cases ao with
    | none => exact run_convert_bytes_nil w 43 5 Tryd.underlying43 Tryd.underlying5 0 cap 9 Tryd.underlying9
    | some a =>
      simp [convert, run_underlying Tryd.underlying43, run_underlying Tryd.underlying9, run_underlying Tryd.underlying5, Conv.bytesToString, loadCells, loadCellsFrom, strB, strOfNums, ints]
      rfl
  · refine run_convert_bytes_arg (P := Tryd.prog) w 43 5 Tryd.underlying43 Tryd.underlying5 g off bs.length cap (ints bs) (ints_len bs) (fun i hi => ?_) 9 Tryd.underlying9
    rw [hc i hi]
    have := ints_getD bs i
    unfold nthI at this
    rw [this]
/-- A row that was grown, as bytes that can be read. -/
theorem rd_own {w : World} {base : Nat} {v : Value} {bs : List Nat} {n : Nat} (h : w.ownsRow base 5 1 v n (valsB bs)) (hle : ∀ x ∈ bs, x ≤ 255) : ∃ ao cap, v = .slice ao bs.length cap ∧ RdB w ao bs := by
  have hn : bs.length = n := by have := h.1; rw [valsB_len] at this; omega
  have hle' : ∀ i, nth bs i ≤ 255 := fun i => by
    by_cases hi : i < bs.length
    · rw [nth_of hi]; exact hle _ (List.getElem_mem hi)
    · rw [nth_over _ (by omega)]; omega
  rcases h.2 with ⟨rfl, hn0⟩ | ⟨g, cap, cur, rfl, hg, hh, hl, hq, hcs, ht⟩
  · refine ⟨none, 0, ?_, hle', .inl (List.eq_nil_of_length_eq_zero (by omega))⟩
    rw [hn, hn0]
  · refine ⟨some ⟨g, 0, none⟩, cap, by rw [hn], hle', .inr ⟨g, 0, rfl, fun i hi => ?_⟩⟩
    have hcu : cur = (cur.toList).toArray := by simp
    rw [hcu] at hh
    rw [Nat.zero_add, cell_row hh]
    have h3 : (cur.toList.take (n * 1))[i]? = cur.toList[i]? := by rw [List.getElem?_take, if_pos (by omega)]
    rw [← h3, ht, valsB_at hi]
theorem valsB_app (a b : List Nat) : valsB (a ++ b) = valsB a ++ valsB b := by simp [valsB]
theorem mem_seal {bs : List Nat} (h : ∀ x ∈ bs, x ≤ 255) (s : Nat) : ∀ x ∈ bs ++ le4 s, x ≤ 255 := fun x hx => by
  rcases List.mem_append.1 hx with hx | hx
  · exact h x hx
  · exact le4_le s x hx
/-- 'append(nil, b...)': a row of one's own, or nil. -/
theorem wpList_append_bytes {w : World} {ops : Array Oper} {rest : List Oper} {o : Oper} {a : Act} {Q : Exit → Act → World → Prop} (hgd : o.guard = none) (s x : Operand)
    (ho : o.op = .call { callee := .builtin .append, args := #[s, x], argTypes := #[43, 43] }) (hs : a.eval s = .slice none 0 0)
    (ao : Option Addr) (bs : List Nat) (cap : Nat) (hx : a.eval x = .slice ao bs.length cap) (hb : RdB w ao bs) (hl : bs.length ≤ 140737488355328)
    (hcap : ao = none → cap = 0)
    (h : ∀ v w', w'.ownsRow w.heap.size 5 1 v bs.length (valsB bs) → w.grownBy w' none → wpList Tryd.prog ops Q rest (a.put o.dst v) w') : wpList Tryd.prog ops Q (o :: rest) a w := by
  obtain ⟨i0, hi, hz0, hz1, hz2⟩ := info_parts Tryd.info5
  cases ao with
  | none =>
    obtain rfl : bs = [] := by
      rcases hb.2 with e | ⟨g, off, e, _⟩
      · exact e
      · cases e
    rw [hcap rfl] at hx
    exact wpList_append_own_none hgd s x 43 ho w.heap.size 5 i0 1 Tryd.underlying43 hi (.slice none 0 0) 0 [] hs (World.ownsRow_nil _ _ _ _) hx (h _ _ (World.ownsRow_nil _ _ _ _) (World.grownBy.refl _ _))
  | some ad =>
    refine wpList_append_own w hgd s x 43 ho w.heap.size 5 i0 (.int .u8 0) 1 1 Tryd.underlying43 hi hz0 hz1 hz2 rfl (by decide) _ _ _ hs (World.ownsRow_nil _ _ _ _) ad bs.length cap (valsB bs) hx (by rw [valsB_len]; omega) ?_ (valsB_one bs) (by unfold maxLen; omega) (by omega) (Nat.le_refl _) ?_
    · intro j u hj
      have hjl : j < (valsB bs).length := (List.getElem?_eq_some_iff.1 hj).1
      obtain ⟨ad', e, hc⟩ := hb.src (by omega)
      cases e
      exact hc j u hj
    · intro v' w' h1 h2 _
      rw [Nat.zero_add, List.nil_append] at h1
      exact h v' w' h1 h2
/-- A row is answered. -/
def RowPost (w : World) (L : List Nat) (e : Ending) (w' : World) : Prop := ∃ ao' cap', e = .returned (.slice ao' L.length cap') ∧ RdB w' ao' L ∧ w.grownBy w' none
set_option maxHeartbeats 1600000 in
theorem kSeal_ok {w : World} (ao : Option Addr) (cap : Nat) (bs : List Nat) (hx : RdB w ao bs) (hcap : ao = none → cap = 0) (hl : bs.length + 4 ≤ 140737488355328) :
    Calls Tryd.prog 19 #[.slice ao bs.length cap] w fun e w' => RowPost w (bs ++ le4 (crc bs)) e w' := by
  obtain ⟨i0, hi, hz0, hz1, hz2⟩ := info_parts Tryd.info5
  have hsm := fun (w' : World) (hg : w.grownBy w' none) => kSum_ok (w := w') ao cap bs (hx.more hg) (by omega)
  have HS : Hid _ := hsm
  have hle := hx.le
  clear hsm
  go_enter Tryd.func19, Tryd.ntmps19
  go_wp2_with (at_builtin; refine wpList_append_bytes rfl _ _ rfl rfl ao bs cap rfl hx (by omega) hcap ?_; intro v1 w1 hown1 hg1)
  refine (HS.out w1 hg1).mono ?_
  rintro e w' ⟨rfl, rfl⟩
  have E4 : Hid (#[Value.int .u8 ((crc bs : Int) % 256), .int .u8 ((crc bs : Int) / 256 % 256), .int .u8 ((crc bs : Int) / 65536 % 256), .int .u8 ((crc bs : Int) / 16777216 % 256)] = (valsB (le4 (crc bs))).toArray) := by simp [Hid, valsB, le4]
  have hsz := hg1.size
  have hown2 := hown1.alloc (.cells (valsB (le4 (crc bs))).toArray 5)
  have hc4 : ∀ j u, (valsB (le4 (crc bs)))[j]? = some u → (w'.alloc (.cells (valsB (le4 (crc bs))).toArray 5)).cell? ((⟨w'.heap.size, 0, none⟩ : Addr).add j) = some u := fun j u hj => by
    rw [addr_add', Nat.zero_add, cell_row (heap_alloc_new w' _), hj]
  have HC : Hid _ := hc4
  have HW : Hid _ := hown2
  have HG : Hid _ := World.grownBy_alloc w' (.cells (valsB (le4 (crc bs))).toArray 5) none
  clear hown2 hc4 HS
  go_wp2_with (at_builtin; rw [E4.out]; refine wpList_append_own _ rfl _ _ 43 rfl w.heap.size 5 i0 (.int .u8 0) 1 1 Tryd.underlying43 hi hz0 hz1 hz2 rfl (by decide) _ _ _ rfl HW.out ⟨w'.heap.size, 0, none⟩ 4 4 (valsB (le4 (crc bs))) rfl rfl HC.out (valsB_one _) (by unfold maxLen; omega) (by omega) (by simp; omega) ?_; intro v2 w2 hown2 hgrow2 _)
  rw [← valsB_app] at hown2
  obtain ⟨ao', cap', rfl, hrd⟩ := rd_own hown2 (mem_seal hle _)
  have hgw : w.grownBy w2 none := by
    have hob := hown1.lt
    have hs2 := hgrow2.size
    simp at hs2
    have hgg := grownBy_trans hg1 HG.out
    refine ⟨hgrow2.os.trans hgg.os, hgrow2.tape.trans hgg.tape, hgrow2.output.trans hgg.output, by omega, fun k hk _ => ?_⟩
    rw [hgrow2.block k (by simp; omega) (fun e => by have := (hob k e.symm).1; omega)]
    exact hgg.block k hk (by simp)
  clear hown2 hgrow2 HC HW HG
  go_wp2
  go_ret
  exact ⟨ao', cap', rfl, hrd, hgw⟩
/-- What the document's Open answers. -/
def KOpenPost (w : World) (ok : Bool) (d : List Nat) (e : Ending) (w' : World) : Prop :=
  if ok then ∃ ao' cap', e = .returned (.tuple #[.slice ao' d.length cap', num 0]) ∧ RdB w' ao' d ∧ w.grownBy w' none
  else e = .returned (.tuple #[.slice none 0 0, num 30]) ∧ w.grownBy w' none
set_option maxHeartbeats 1600000 in
theorem kOpen_short {w : World} (ao : Option Addr) (cap : Nat) (bs : List Nat) (h : bs.length < 4) :
    Calls Tryd.prog 40 #[.slice ao bs.length cap] w fun e w' => e = .returned (.tuple #[.slice none 0 0, num 30]) ∧ w.grownBy w' none := by
  have h1 : (bs.length : Int) - 4 < 0 := by omega
  go_enter Tryd.func40, Tryd.ntmps40
  go_wp2
  exact bodyPost_ret (v := .tuple #[.slice none 0 0, num 30]) (by simp [results, Tryd.f40, go_sem]) rfl ⟨rfl, World.grownBy.refl _ _⟩
theorem le4_ne {t : List Nat} (h4 : t.length = 4) (hle : ∀ i, nth t i ≤ 255) (s : Nat) (hs : s < 4294967296) : nm t = s ↔ (nth t 0 = s % 256 ∧ nth t 1 = s / 256 % 256 ∧ nth t 2 = s / 65536 % 256 ∧ nth t 3 = s / 16777216 % 256) := by
  obtain ⟨a, b, c, d, rfl⟩ : ∃ a b c d, t = [a, b, c, d] := by
    match t, h4 with
    | [a, b, c, d], _ => exact ⟨a, b, c, d, rfl⟩
  have h0 : a ≤ 255 := hle 0
  have h1 : b ≤ 255 := hle 1
  have h2 : c ≤ 255 := hle 2
  have h3 : d ≤ 255 := hle 3
  rw [nm_four h0 h1 h2]
  simp only [nth, List.getD_cons_zero, List.getD_cons_succ]
  omega
set_option maxHeartbeats 3200000 in
theorem kOpen_ok {w : World} (g off cap : Nat) (d t : List Nat) (hd : RdB w (some ⟨g, off, none⟩) d) (ht : RdB w (some ⟨g, off + d.length, none⟩) t) (h4 : t.length = 4) (hc : d.length + 4 ≤ cap) (hl : d.length + 4 ≤ 140737488355328) :
    Calls Tryd.prog 40 #[.slice (some ⟨g, off, none⟩) (d.length + 4) cap] w fun e w' => KOpenPost w (decide (nm t = crc d)) d e w' := by
  have hks := kSum_ok (w := w) (some ⟨g, off, none⟩) cap d hd (by omega)
  have hq := le4_ne h4 ht.1 (crc d) (crc_lt hd.le)
  obtain ⟨g', o', e', hct⟩ := ht.2.resolve_left (fun e => by rw [e] at h4; simp at h4)
  simp at e'
  obtain ⟨rfl, rfl⟩ := e'
  have c0 := hct 0 (by omega)
  have c1 := hct 1 (by omega)
  have c2 := hct 2 (by omega)
  have c3 := hct 3 (by omega)
  rw [Nat.add_zero] at c0
  rw [Nat.add_assoc] at c1 c2 c3
  generalize nth t 0 = T0 at c0 hq
  generalize nth t 1 = T1 at c1 hq
  generalize nth t 2 = T2 at c2 hq
  generalize nth t 3 = T3 at c3 hq
  have hG4 : (((T0 : Int) != (crc d : Int) % 256) = false ∧ ((T1 : Int) != (crc d : Int) / 256 % 256) = false ∧ ((T2 : Int) != (crc d : Int) / 65536 % 256) = false ∧ ((T3 : Int) != (crc d : Int) / 16777216 % 256) = false) ↔ nm t = crc d := by
    rw [hq]
    simp only [bne_eq_false_iff_eq]
    omega
  have HK : Hid (Calls Tryd.prog 36 #[.slice (some ⟨g, off, none⟩) d.length cap] w _) := hks
  clear hct hq hks ht
  have HQ : Hid _ := hG4
  clear hG4
  have HB : Hid (¬ nm t = crc d → ∀ e w', e = .returned (.tuple #[.slice none 0 0, num 30]) → w.grownBy w' none → KOpenPost w (decide (nm t = crc d)) d e w') := fun hok e w' h1 h2 => by simp [KOpenPost, hok, h1, h2]
  rcases q0 : ((T0 : Int) != (crc d : Int) % 256) with _ | _
  · rcases q1 : ((T1 : Int) != (crc d : Int) / 256 % 256) with _ | _
    · rcases q2 : ((T2 : Int) != (crc d : Int) / 65536 % 256) with _ | _
      · rcases q3 : ((T3 : Int) != (crc d : Int) / 16777216 % 256) with _ | _
        · have hok := HQ.out.1 ⟨q0, q1, q2, q3⟩
          have HP : Hid (∀ e w', (∃ ao' cap', e = .returned (.tuple #[.slice ao' d.length cap', num 0]) ∧ RdB w' ao' d ∧ w.grownBy w' none) → KOpenPost w (decide (nm t = crc d)) d e w') := fun e w' h => by simpa [KOpenPost, hok] using h
          have hle := hd.le
          clear hok HQ HB
          go_enter Tryd.func40, Tryd.ntmps40
          go_wp2_with fail
          refine HK.out.mono ?_
          rintro e w ⟨rfl, rfl⟩
          go_wp2_with (at_builtin; refine wpList_append_bytes rfl _ _ rfl rfl (some ⟨g, off, none⟩) d cap rfl hd (by omega) (fun e => by cases e) ?_; intro v1 w1 hown1 hg1)
          obtain ⟨ao', cap', rfl, hrd⟩ := rd_own hown1 hle
          exact bodyPost_ret (v := .tuple #[.slice ao' d.length cap', num 0]) (by simp [results, Tryd.f40, go_sem]) rfl (HP.out _ _ ⟨ao', cap', rfl, hrd, hg1⟩)
        · have hbad := HB.out (fun e => by have := (HQ.out.2 e).2.2.2; rw [q3] at this; cases this)
          have HX : Hid _ := hbad
          clear hbad HQ HB
          go_enter Tryd.func40, Tryd.ntmps40
          go_wp2_with fail
          refine HK.out.mono ?_
          rintro e w ⟨rfl, rfl⟩
          go_wp2
          exact bodyPost_ret (v := .tuple #[.slice none 0 0, num 30]) (by simp [results, Tryd.f40, go_sem]) rfl (HX.out _ _ rfl (World.grownBy.refl _ _))
      · have hbad := HB.out (fun e => by have := (HQ.out.2 e).2.2.1; rw [q2] at this; cases this)
        have HX : Hid _ := hbad
        clear hbad HQ HB
        go_enter Tryd.func40, Tryd.ntmps40
        go_wp2_with fail
        refine HK.out.mono ?_
        rintro e w ⟨rfl, rfl⟩
        go_wp2
        exact bodyPost_ret (v := .tuple #[.slice none 0 0, num 30]) (by simp [results, Tryd.f40, go_sem]) rfl (HX.out _ _ rfl (World.grownBy.refl _ _))
    · have hbad := HB.out (fun e => by have := (HQ.out.2 e).2.1; rw [q1] at this; cases this)
      have HX : Hid _ := hbad
      clear hbad HQ HB
      go_enter Tryd.func40, Tryd.ntmps40
      go_wp2_with fail
      refine HK.out.mono ?_
      rintro e w ⟨rfl, rfl⟩
      go_wp2
      exact bodyPost_ret (v := .tuple #[.slice none 0 0, num 30]) (by simp [results, Tryd.f40, go_sem]) rfl (HX.out _ _ rfl (World.grownBy.refl _ _))
  · have hbad := HB.out (fun e => by have := (HQ.out.2 e).1; rw [q0] at this; cases this)
    have HX : Hid _ := hbad
    clear hbad HQ HB
    go_enter Tryd.func40, Tryd.ntmps40
    go_wp2_with fail
    refine HK.out.mono ?_
    rintro e w ⟨rfl, rfl⟩
    go_wp2
    exact bodyPost_ret (v := .tuple #[.slice none 0 0, num 30]) (by simp [results, Tryd.f40, go_sem]) rfl (HX.out _ _ rfl (World.grownBy.refl _ _))
end Cr
end Go.Proofs.YtoakokpeomlkjaaDoor
