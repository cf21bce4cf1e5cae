/- Seal of the program. -/
import Derived.Test.YtoakokpeomlkjaaDoorXd
namespace Go.Proofs.YtoakokpeomlkjaaDoor
open Go.RowKit
namespace Cr
/-- 'make([]byte, n)': the world behind it, written out. -/
theorem wpList_make_byte {P : Program} (w : World) {ops : Array Oper} {rest : List Oper} {o : Oper} {a : Act} {Q : Exit → Act → World → Prop}
    (hg : o.guard = none) (l c : Operand) (t : TypeId) (hop : o.op = Op.makeSlice t l c)
    (e : TypeId) (i : TypeInfo) (h1 : P.underlying t = some (.slice e)) (h2 : P.info? e = some i) (h3 : i.zero = some (.int .u8 0)) (h4 : i.size = 1) (h5 : i.bytes = 1)
    (kl kc : IntKind) (L C : Int) (n : Nat) (hl : a.eval l = .int kl L) (hc : a.eval c = .int kc C) (hL : L = (n : Int)) (hC : C = (n : Int)) (b2 : n ≤ 281474976710656)
    (hK : wpList P ops Q rest (a.put o.dst (.slice (some ⟨w.heap.size, 0, none⟩) n n)) (w.alloc (.cells (valsB (List.replicate n 0)).toArray e))) :
    wpList P ops Q (o :: rest) a w := by
  refine wpList_plain hg fun K hK' => ?_
  have hr := run_make (P := P) w t e i (.int .u8 0) h1 h2 h3 kl kc n n (by omega) (Int.le_refl _) (by rw [h5]; omega) (by omega)
  simp only [Int.toNat_natCast, h4, Nat.mul_one] at hr
  have e1 : (madeCells (Value.int .u8 0).cells n) = (valsB (List.replicate n 0)).toArray := by
    rw [← valsB_zeros]
    apply Array.toList_inj.1
    exact (toList_madeCells_one (.int .u8 0) n)
  rw [e1] at hr
  subst hL
  subst hC
  unfold Oper.wp
  simp [execOp, hop, hl, hc, hr, Result.andThen]
  exact hK' _ _ hK
theorem Tryd.one5 : (Tryd.prog.info? 5).map (·.size) = some 1 := by kernel_rfl
theorem made_grown {w w2 : World} {o : Obj} (h : Below w.heap.size (w.alloc o) w2) : w.grownBy w2 none := by
  have := h.size
  simp at this
  exact ⟨h.os, h.tape, h.output, by omega, fun k hk _ => (h.block k hk).trans (Below.heap_alloc _ _ _ hk)⟩
/-- What is copied, as it lies. -/
theorem RdB.src {w : World} {ao : Option Addr} {bs : List Nat} (h : RdB w ao bs) : 0 < (valsB bs).length → ∃ ad, ao = some ad ∧ ∀ j v, (valsB bs)[j]? = some v → w.cell? (ad.add j) = some v := by
  intro hp
  rw [valsB_len] at hp
  obtain ⟨g, off, rfl, hc⟩ := h.2.resolve_left (fun e => by rw [e] at hp; simp at hp)
  refine ⟨_, rfl, fun j v hj => ?_⟩
  have hjl : j < bs.length := by
    have := (List.getElem?_eq_some_iff.1 hj).1
    rwa [valsB_len] at this
  rw [valsB_at hjl] at hj
  rw [addr_add', hc j hjl, hj]
theorem splice_valsB (bs : List Nat) (n : Nat) : splice (valsB (List.replicate (bs.length + n) 0)) 0 (valsB bs) = valsB (bs ++ List.replicate n 0) := by
  simp [splice, valsB, List.drop_replicate]
def SealPost (w : World) (bs : List Nat) (e : Ending) (w' : World) : Prop := ∃ g, e = .returned (.slice (some ⟨g, 0, none⟩) (bs.length + 4) (bs.length + 4)) ∧ w.heap.size ≤ g ∧ w.grownBy w' none ∧ OwnB w' g (bs ++ le4 (crc bs)) []
set_option maxHeartbeats 1600000 in
theorem seal_ok {w : World} (hG : Glob w) (ao : Option Addr) (cap : Nat) (bs : List Nat) (hx : RdB w ao bs) (hl : bs.length ≤ 140737488355328) :
    Calls Tryd.prog 41 #[.slice ao bs.length cap] w fun e w' => SealPost w bs e w' := by
  obtain ⟨i0, hi, hz0, hz1, hz2⟩ := info_parts Tryd.info5
  obtain ⟨O, hO⟩ : ∃ O : Obj, O = .cells (valsB (List.replicate (bs.length + 4) 0)).toArray 5 := ⟨_, rfl⟩
  have hA := World.grownBy_alloc w O none
  have hO1 : (w.alloc O).heap[w.heap.size]? = some (.cells (valsB (List.replicate (bs.length + 4) 0)).toArray 5) := by rw [← hO]; exact heap_alloc_new w O
  have HS : Hid _ := (hx.more hA).src
  have hsm := fun (w' : World) (hg : w.grownBy w' none) => sum_ok (hG.more hg) ao cap bs (hx.more hg) (by omega)
  have HSm : Hid _ := hsm
  have hle := hx.le
  have hcl := crc_lt hle
  have HO : Hid (O = _) := hO
  clear hsm hx hO
  go_enter Tryd.func41, Tryd.ntmps41
  go_wp2_with (first | (at_make; go_must (refine wpList_make_byte _ rfl _ _ 43 rfl 5 i0 Tryd.underlying43 hi hz0 hz1 hz2 .i64 .i64 _ _ (bs.length + 4) rfl rfl (by omega) (by omega) (by omega) ?_; rw [← HO.out])) | ((refine wpList_copy_splice rfl (.tmp 10) (.tmp 11) 43 43 rfl 5 Tryd.underlying43 Tryd.one5 _ _ _ _ _ _ rfl rfl w.heap.size 0 (valsB (List.replicate (bs.length + 4) 0)) 5 (by exact hO1) (valsB bs) (by rw [valsB_len]; exact (Nat.min_eq_left (by omega)).symm) (fun hp => ⟨rfl, HS.out hp⟩) (by rw [valsB_len, valsB_len]; simp) (valsB_one bs) w.heap.size _ (Below.refl _ _) (Nat.le_refl _) ?_; intro w2 hg2 hb2)))
  have hgr := made_grown hb2
  refine (HSm.out w2 hgr).mono ?_
  rintro e w' ⟨rfl, rfl⟩
  have hO2 : OwnB w' w.heap.size (laidS bs (crc bs) 0) [] := ⟨by rw [hg2.out, splice_valsB, List.append_nil]; simp [laidS], laidS_le hle _ _⟩
  clear hg2 hb2 HS HO hO1 hA
  go_wp2_with fail
  go_loopw [15] (fun i wr => ∃ k : Nat, k ≤ 4 ∧ i = num k ∧ w.grownBy wr none ∧ OwnB wr w.heap.size (laidS bs (crc bs) k) []) (fun i _ => 4 - (intOf i).toNat)
  case atStart => exact ⟨0, Nat.zero_le _, rfl, hgr, hO2⟩
  case round =>
    clear hO2 hgr
    obtain ⟨k, hk, rfl, hgr, hO2⟩ := hrel
    by_cases hlt : k < 4
    · have b1 : (k : Int) < 4 := by omega
      have zk := hO2.frozen (bs.length + k)
      have ck := hO2.cell (k := bs.length + k) (by rw [laidS_len bs _ hk]; omega)
      have hN := hO2.store (k := bs.length + k) (v := crc bs / 2 ^ (8 * k) % 256) (by rw [laidS_len bs _ hk]; omega) (by omega)
      rw [laidS_next bs _ hlt] at hN
      have hgn := grownBy_setCell (i := bs.length + k) hgr (.inl (Nat.le_refl _)) (.int .u8 (crc bs / 2 ^ (8 * k) % 256 : Nat))
      have HV : Hid (((crc bs : Int) / 2 ^ (8 * k) % 256) = ((crc bs / 2 ^ (8 * k) % 256 : Nat) : Int)) := by simp [Hid]
      clear hO2
      go_wp2
      go_roundw
      case rel => exact ⟨k + 1, by omega, by go_num, by rw [HV.out]; exact hgn, by rw [HV.out]; exact hN⟩
      case measure => simp [intOf]; omega
    · obtain rfl : k = 4 := by omega
      have HL : Hid (laidS bs (crc bs) 4 = bs ++ le4 (crc bs)) := by simp [Hid, laidS, le4]
      rw [HL.out] at hO2
      clear HL
      go_wp2
      go_ret
      exact ⟨w.heap.size, rfl, Nat.le_refl _, hgr, hO2⟩
/-! ### Open -/
/-- What Open answers: the error's number, and what was sealed. -/
def OpenPost (w : World) (ok : Bool) (d : List Nat) (e : Ending) (w' : World) : Prop :=
  if ok then ∃ g, e = .returned (.tuple #[.slice (some ⟨g, 0, none⟩) d.length d.length, num 0]) ∧ w.heap.size ≤ g ∧ w.grownBy w' none ∧ OwnB w' g d []
  else e = .returned (.tuple #[.slice none 0 0, num 30]) ∧ w.grownBy w' none
theorem RdB.part {w : World} {g off : Nat} {bs : List Nat} (h : RdB w (some ⟨g, off, none⟩) bs) (h1 : 1 ≤ bs.length) (i n : Nat) (hi : i + n ≤ bs.length) : RdB w (some ⟨g, off + i, none⟩) ((bs.drop i).take n) := by
  obtain ⟨g', off', e, hc⟩ := h.2.resolve_left (fun e => by rw [e] at h1; simp at h1)
  simp at e
  obtain ⟨rfl, rfl⟩ := e
  have hn : ∀ j, j < n → nth ((bs.drop i).take n) j = nth bs (i + j) := fun j hj => by
    rw [nth_of (by simp; omega), nth_of (by omega)]; simp
  refine ⟨fun j => ?_, .inr ⟨g, off + i, rfl, fun j hj => ?_⟩⟩
  · by_cases hj : j < n
    · rw [hn j hj]; exact h.1 _
    · rw [nth_over _ (by simp; omega)]; omega
  · have hj' : j < n := by simp at hj; omega
    rw [hn j hj', Nat.add_assoc]; exact hc (i + j) (by omega)
set_option maxHeartbeats 1600000 in
theorem open_short {w : World} (ao : Option Addr) (cap : Nat) (bs : List Nat) (h : bs.length < 4) :
    Calls Tryd.prog 37 #[.slice ao bs.length cap] w fun e w' => e = .returned (.tuple #[.slice none 0 0, num 30]) ∧ w.grownBy w' none := by
  have h1 : decide ((bs.length : Int) - 4 < 0) = true := by simp; omega
  go_enter Tryd.func37, Tryd.ntmps37
  go_wp2_with fail
  go_region
  go_wp2
  exact bodyPost_ret (v := .tuple #[.slice none 0 0, num 30]) (by simp [results, Tryd.f37, go_sem]) rfl ⟨rfl, grownBy_drew (World.grownBy.refl _ _)⟩
set_option maxHeartbeats 1600000 in
theorem open_ok {w : World} (hG : Glob w) (g off cap : Nat) (d t : List Nat) (hd : RdB w (some ⟨g, off, none⟩) d) (ht : RdB w (some ⟨g, off + d.length, none⟩) t) (h4 : t.length = 4) (hc : d.length + 4 ≤ cap) (hl : d.length + 4 ≤ 140737488355328) :
    Calls Tryd.prog 37 #[.slice (some ⟨g, off, none⟩) (d.length + 4) cap] w fun e w' => OpenPost w (decide (nm t = crc d)) d e w' := by
  have hdr := fun n => grownBy_drewN (World.grownBy.refl w none) n
  have k1 := fun n c => number_ok (w := w.drewN n) (some ⟨g, off + d.length, none⟩) c t (ht.more (hdr n)) h4
  have k2 := fun n c => sum_ok (w := w.drewN n) (hG.more (hdr n)) (some ⟨g, off, none⟩) c d (hd.more (hdr n)) (by omega)
  have h1 : decide ((d.length : Int) < 0) = false := by simp
  have K1 : Hid _ := k1
  have K2 : Hid _ := k2
  clear k1 k2
  by_cases hok : nm t = crc d
  · have hne : ((nm t : Int) != (crc d : Int)) = false := by simp [hok]
    have HP : Hid (∀ e w', (∃ g, e = .returned (.tuple #[.slice (some ⟨g, 0, none⟩) d.length d.length, num 0]) ∧ w.heap.size ≤ g ∧ w.grownBy w' none ∧ OwnB w' g d []) → OpenPost w (decide (nm t = crc d)) d e w') := fun e w' h => by simpa [OpenPost, hok] using h
    obtain ⟨i0, hi, hz0, hz1, hz2⟩ := info_parts Tryd.info5
    obtain ⟨O, hO⟩ : ∃ O : Obj, O = .cells (valsB (List.replicate d.length 0)).toArray 5 := ⟨_, rfl⟩
    have HO : Hid (O = _) := hO
    have hO1 : ∀ n, ((w.drewN n).alloc O).heap[w.heap.size]? = some (.cells (valsB (List.replicate d.length 0)).toArray 5) := fun n => by rw [← hO]; exact heap_alloc_new (w.drewN n) O
    have hA := fun n => World.grownBy_alloc (w.drewN n) O none
    have HS : Hid _ := fun n => (hd.more (grownBy_trans (hdr n) (hA n))).src
    have hle := hd.1
    clear hok hO hA
    go_enter Tryd.func37, Tryd.ntmps37
    go_wp2_with fail
    go_quiet (first | (go_at_call 45; exact Calls.quiet_of_same (K1.out _ _)) | (go_at_call 46; exact Calls.quiet_of_same (K2.out _ _)))
    go_wp2_with (first | (at_make; go_must (refine wpList_make_byte _ rfl _ _ 43 rfl 5 i0 Tryd.underlying43 hi hz0 hz1 hz2 .i64 .i64 _ _ d.length rfl rfl (by omega) (by omega) (by omega) ?_; rw [← HO.out])) | ((refine wpList_copy_splice rfl (.tmp 24) (.tmp 25) 43 43 rfl 5 Tryd.underlying43 Tryd.one5 _ _ _ _ _ _ rfl rfl w.heap.size 0 (valsB (List.replicate d.length 0)) 5 (by exact hO1 _) (valsB d) (by rw [valsB_len]; exact (Nat.min_eq_right (by omega)).symm) (fun hp => ⟨rfl, HS.out _ hp⟩) (by rw [valsB_len, valsB_len]; simp) (valsB_one d) w.heap.size _ (Below.refl _ _) (Nat.le_refl _) ?_; intro w2 hg2 hb2)))
    have hgr : w.grownBy w2 none := grownBy_trans (hdr _) (made_grown hb2)
    have hO2 : OwnB w2 w.heap.size d [] := ⟨by
      have := splice_valsB d 0
      rw [Nat.add_zero] at this
      rw [hg2.out, this, List.append_nil]; simp, hle⟩
    clear hg2 hb2 HS HO hO1
    go_wp2
    exact bodyPost_ret (v := .tuple #[.slice (some ⟨w.heap.size, 0, none⟩) d.length d.length, num 0]) (by simp [results, Tryd.f37, go_sem]) rfl (HP.out _ _ ⟨w.heap.size, rfl, Nat.le_refl _, hgr, hO2⟩)
  · have hne : ((nm t : Int) != (crc d : Int)) = true := by simp; omega
    have HP : Hid (∀ e w', e = .returned (.tuple #[.slice none 0 0, num 30]) → w.grownBy w' none → OpenPost w (decide (nm t = crc d)) d e w') := fun e w' h1 h2 => by simp [OpenPost, hok, h1, h2]
    clear hok
    go_enter Tryd.func37, Tryd.ntmps37
    go_wp2_with fail
    go_quiet (first | (go_at_call 45; exact Calls.quiet_of_same (K1.out _ _)) | (go_at_call 46; exact Calls.quiet_of_same (K2.out _ _)))
    go_wp2
    exact bodyPost_ret (v := .tuple #[.slice none 0 0, num 30]) (by simp [results, Tryd.f37, go_sem]) rfl (HP.out _ _ rfl (hdr _))
end Cr
end Go.Proofs.YtoakokpeomlkjaaDoor
