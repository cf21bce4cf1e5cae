/- Layer 4 (nand): awake. -/
import Derived.Test.YtojamicakkecbabNu
import Derived.Lib.SlBytesConst
namespace Go.Proofs.Ytojamicakkecbab
open Go.RowKit Go.Maps
namespace Nd
theorem Bd.off {A : St} {N : Int} (h : Bd A N) : Bd (A.setOn true) N := ⟨h.cnt, h.er, h.nx, h.cu⟩
theorem Bd.up {A : St} {N : Int} (h : Bd A N) (d b : Nat) {f : Blk → Blk} (he : (f (A.blk d b)).erases = (A.blk d b).erases) (hn : -1 ≤ (f (A.blk d b)).next ∧ (f (A.blk d b)).next ≤ A.P) : Bd (A.upB d b f) N := by
  refine ⟨h.cnt, fun d' b' => ?_, fun d' b' => ?_, h.cu⟩
  · show 0 ≤ (if d' = d ∧ b' = b then _ else A.blk d' b').erases ∧ (if d' = d ∧ b' = b then _ else A.blk d' b').erases ≤ N
    split
    · rw [he]; exact h.er d b
    · exact h.er d' b'
  · show -1 ≤ (if d' = d ∧ b' = b then _ else A.blk d' b').next ∧ (if d' = d ∧ b' = b then _ else A.blk d' b').next ≤ A.P
    split
    · exact hn
    · exact h.nx d' b'
theorem Bd.program {A : St} {N : Int} (h : Bd A N) {d b p : Nat} {bs : List Nat} (hn : (A.blk d b).next < A.P) : Bd (A.doProgram d b p bs).1 (N + 2) := by
  unfold St.doProgram
  split
  · split
    · exact (((h.tick 1).cutOff).prog hn).mono (by omega)
    · exact ((h.tick 1).cutOff).mono (by omega)
  · split
    · simp only [St.progAll]
      split
      · exact ((h.tick 1).prog hn).mono (by omega)
      · exact (((h.tick 1).prog hn).tick 4).mono (by omega)
    · exact (h.tick 1).mono (by omega)
theorem Bd.read0 {A : St} {N : Int} (h : Bd A N) {d b p : Nat} : Bd (A.doRead0 d b p).1 (N + 2) := by
  unfold St.doRead0
  split
  · exact ((h.tick 0).cutOff).mono (by omega)
  · split <;> exact (h.tick 0).mono (by omega)
theorem Bd.erase {A : St} {N : Int} (h : Bd A N) (d b : Nat) : Bd (A.doErase d b).1 (N + 3) := by
  have key : ∀ {A : St} {N : Int} (_ : Bd A N) (k : Nat), Bd ((A.upB d b Blk.incE).upB d b (Blk.clr k)) (N + 1) := fun {A N} h k => by
    refine (h.incE d b).up d b rfl ?_
    rw [upB_same]
    exact h.nx d b
  have keyN : ∀ {A : St} {N : Int} (_ : Bd A N) (v : Int), -1 ≤ v → v ≤ 0 → Bd (A.upB d b (Blk.setN v)) N := fun {A N} h v h1 h2 => h.up d b rfl ⟨h1, by show v ≤ (A.P : Int); omega⟩
  unfold St.doErase
  split
  · split
    · simp only [St.erasePart]
      have hc := (h.tick 2).cutOff
      split
      · exact (((keyN (hc.incE d b) (-1) (by omega) (by omega)).up d b rfl (by rw [upB_same]; exact ⟨by show (-1 : Int) ≤ -1; omega, by show (-1 : Int) ≤ (A.P : Int); omega⟩))).mono (by omega)
      · exact (keyN (hc.incE d b) (-1) (by omega) (by omega)).mono (by omega)
    · exact ((h.tick 2).cutOff).mono (by omega)
  · split
    · simp only [St.eraseAll]
      split
      · exact (keyN (key (h.tick 2) _) 0 (by omega) (by omega)).mono (by omega)
      · exact (((h.tick 2).incE d b).tick 4).mono (by omega)
    · exact (h.tick 2).mono (by omega)
/-! ### Bytes as a string -/
def ints (xs : List Nat) : List Int := xs.map fun n : Nat => (n : Int)
theorem ints_len (xs : List Nat) : (ints xs).length = xs.length := by simp [ints]
theorem ints_getD (xs : List Nat) (i : Nat) : nthI (ints xs) i = ((nth xs i : Nat) : Int) := by
  simp only [ints, nth, nthI, List.getD_eq_getElem?_getD, List.getElem?_map]
  cases xs[i]? <;> rfl
def strB (bs : List Nat) : ByteArray := strOfNums (ints bs)
theorem conv_ok {w : World} {g off : Nat} {bs : List Nat} (h : Src w g off bs) (cap : Nat) : (convert 33 9 (.slice (some ⟨g, off, none⟩) bs.length cap)).run Try.prog w = .ok (.string (strB bs)) w := by
  refine run_convert_bytes_arg (P := Try.prog) w 33 5 Try.underlying33 Try.underlying5 g off bs.length cap (ints bs) (ints_len bs) (fun i hi => ?_) 9 Try.underlying9
  rw [h.cell i hi]
  have := ints_getD bs i
  unfold nthI at this
  rw [this]
theorem strB_inj {a b : List Nat} (ha : ∀ i, nth a i ≤ 255) (hb : ∀ i, nth b i ≤ 255) (h : strB a = strB b) : a = b := by
  have hd : (ints a).map (fun n => UInt8.ofNat n.toNat) = (ints b).map (fun n => UInt8.ofNat n.toNat) := by
    have := congrArg (fun s : ByteArray => s.data.toList) h
    simpa [strB, strOfNums] using this
  have hl : a.length = b.length := by
    have := congrArg List.length hd
    simpa [ints] using this
  apply List.ext_getElem hl
  intro i h1 h2
  have e := congrArg (fun l => l[i]?) hd
  simp [ints, h1, h2] at e
  have ha' := ha i
  have hb' := hb i
  rw [nth_of h1] at ha'
  rw [nth_of h2] at hb'
  have := congrArg UInt8.toNat e
  simp at this
  omega
theorem str_ab : strB [97, 98] = ⟨#[97, 98]⟩ := by kernel_rfl
theorem str_cx : strB [99, 255] = ⟨#[99, 255]⟩ := by kernel_rfl
/-! ### awake -/
def awF : Flt := ⟨5, 2, 0, 0, 0, 0, 1, [], none, 0⟩
def aw0 : St := layAll (St.new 1 2 2 2) [awF]
def aw1 : St := (aw0.doProgram 0 0 0 [97, 98]).1
def aw2 : St := (aw1.doRead0 0 0 0).1
def aw3 : St := (aw2.doProgram 0 0 1 [99, 100]).1
def aw4 : St := aw3.setOn true
def aw5 : St := (aw4.doRead0 0 0 1).1
theorem aw_0 : (aw0.doProgram 0 0 0 [97, 98]).2 = 0 ∧ aw0.on = true ∧ aw0.Y = 2 ∧ (aw0.blk 0 0).next = 0 ∧ aw0.D = 1 ∧ aw0.B = 2 ∧ aw0.P = 2 := ⟨rfl, rfl, rfl, rfl, rfl, rfl, rfl⟩
theorem aw_1 : (aw1.doRead0 0 0 0).2 = (some [97, 98], 0) ∧ aw1.on = true ∧ (aw1.blk 0 0).flips = [] ∧ aw1.D = 1 ∧ aw1.B = 2 ∧ aw1.P = 2 := ⟨rfl, rfl, rfl, rfl, rfl, rfl⟩
theorem aw_2 : (aw2.doProgram 0 0 1 [99, 100]).2 = 40 ∧ aw2.on = true ∧ aw2.Y = 2 ∧ (aw2.blk 0 0).next = 1 ∧ aw2.D = 1 ∧ aw2.B = 2 ∧ aw2.P = 2 := ⟨rfl, rfl, rfl, rfl, rfl, rfl, rfl⟩
theorem aw_4 : aw3.on = false ∧ (aw4.doRead0 0 0 1).2 = (some [99, 255], 0) ∧ aw4.on = true ∧ (aw4.blk 0 0).flips = [] ∧ aw4.D = 1 ∧ aw4.B = 2 ∧ aw4.P = 2 := ⟨rfl, rfl, rfl, rfl, rfl, rfl, rfl⟩
theorem aw_5 : (aw5.blk 0 0).next = 2 ∧ aw5.num = 4 ∧ aw5.D = 1 ∧ aw5.B = 2 := ⟨rfl, rfl, rfl, rfl⟩
theorem Bd.new (D B P Y : Nat) : Bd (St.new D B P Y) 0 := ⟨fun _ _ => ⟨Int.le_refl _, Int.le_refl _⟩, fun _ _ => ⟨Int.le_refl _, Int.le_refl _⟩, fun _ _ => ⟨by show (-1 : Int) ≤ 0; omega, by show (0 : Int) ≤ (P : Int); omega⟩, fun k v hv => by cases hv⟩
theorem lay_bd {A : St} {N : Int} (h : Bd A N) {f : Flt} (hf : FMay A f) : Bd (A.lay f) N := by
  unfold St.lay
  split
  · exact h.up _ _ rfl (h.nx _ _)
  split
  · exact h.up _ _ rfl (h.nx _ _)
  split
  · exact h.up _ _ rfl (h.nx _ _)
  split
  · exact ⟨h.cnt, h.er, h.nx, h.cu⟩
  split
  · split
    · exact h
    · refine ⟨h.cnt, h.er, h.nx, fun k v hv => ?_⟩
      simp only [St.addCut] at hv
      split at hv
      · have := Option.some.inj hv
        have := hf.p0
        omega
      · exact h.cu k v hv
  · exact h.up _ _ rfl (h.nx _ _)
theorem layAll_bd {N : Int} : ∀ (fs : List Flt) {A : St}, Bd A N → (∀ f ∈ fs, FMay A f) → Bd (layAll A fs) N
  | [], _, h, _ => h
  | f :: fs, A, h, hf => by
    obtain ⟨l1, l2, l3, l4, _⟩ := lay_dims A f
    exact layAll_bd fs (lay_bd h (hf f (by simp))) (fun x hx => (hf x (by simp [hx])).same l1 l2 l3 l4)
theorem awF_may : FMay (St.new 1 2 2 2) awF := ⟨by decide, by decide, by decide, ⟨by decide, by decide⟩, by decide, by decide, ⟨by decide, by decide⟩, by decide, by decide, by decide, by decide, by decide, by decide, fun i hi => by cases hi⟩
theorem aw_dims : Dims (St.new 1 2 2 2) := ⟨by decide, by decide, by decide, by decide, by decide, by decide, by decide, by decide⟩
theorem src_two {w : World} {g : Nat} {x y : Nat} {fr : Nat × Nat} (h : w.heap[g]? = some (.cells #[.int .u8 (x : Int), .int .u8 (y : Int)] 5 fr)) (hx : x ≤ 255) (hy : y ≤ 255) : Src w g 0 [x, y] :=
  ⟨nth_mem_le fun z hz => by simp at hz; omega, fun i hi => by
    have : i = 0 ∨ i = 1 := by simp at hi; omega
    rcases this with rfl | rfl <;> simp [World.cell?, h, nth]⟩
set_option maxHeartbeats 3200000 in
set_option maxRecDepth 4000 in
theorem awake_ok (w : World) : Calls Try.prog 4 #[] w fun e w' => e = .returned (.bool true) ∧ w.grownBy w' none := by
  have hnn := hnot
  obtain ⟨W, hW⟩ : ∃ W, W = w.alloc (.cells #[num 5, num 2, num 0, num 0, num 0, num 0, num 1, .slice none 0 0] 47) := ⟨_, rfl⟩
  have hgW : w.grownBy W none := by rw [hW]; exact World.grownBy_alloc w _ none
  have hbx : W.heap[w.heap.size]? = some (.cells (fltL awF).toArray 47) := by rw [hW]; exact heap_alloc_new w _
  have Hw : Hid _ := hW
  have hM : FaultsM W (some ⟨w.heap.size, 0, none⟩) [awF] := by
    refine ⟨.inr ⟨w.heap.size, 0, rfl, fun k f hf j v hv => ?_⟩, fun f hf => ?_⟩
    · cases k with
      | zero =>
        simp at hf
        subst hf
        have := (At.of_row (o := j) hbx (by simpa using hv)).1
        simpa using this
      | succ k => simp at hf
    · simp at hf
      subst hf
      exact ⟨.inl rfl, by decide⟩
  have HN : Hid (Calls Try.prog 5 #[shapeV 1 2 2 2, .slice (some ⟨w.heap.size, 0, none⟩) 1 1] W (NewPost W aw0)) :=
    new_ok 1 2 2 2 aw_dims (by decide) (fs := [awF]) (cap := 1) hM (fun f hf => by simp at hf; subst hf; exact awF_may) (by decide) (fun f hf => by simp at hf; subst hf; decide)
  have B0 : Bd aw0 0 := layAll_bd [awF] (Bd.new 1 2 2 2) (fun f hf => by simp at hf; subst hf; exact awF_may)
  have B1 : Bd aw1 2 := (B0.program (by decide)).mono (by decide)
  have B2 : Bd aw2 4 := (B1.read0).mono (by decide)
  have B3 : Bd aw3 6 := (B2.program (by decide)).mono (by decide)
  have B4 : Bd aw4 6 := B3.off
  have B5 : Bd aw5 8 := (B4.read0).mono (by decide)
  clear hW hbx hM
  go_enter Try.func4, Try.ntmps4
  go_wp2_with (rw [← Hw.out])
  refine HN.out.mono ?_
  rintro e w1 ⟨M, lab, rfl, h1, st1⟩
  have st01 : Stp (fun _ => none) lab w w1 := ⟨st1.os.trans hgW.os, st1.tape.trans hgW.tape, st1.output.trans hgW.output, Nat.le_trans hgW.size st1.size, fun g hg _ => (st1.same g (Nat.lt_of_lt_of_le hg hgW.size) rfl).trans (hgW.block g hg (by simp)), fun g hg => .inr (by
    rcases st1.own g hg with k | k
    · exact absurd rfl k
    · exact Nat.le_trans hgW.size k)⟩
  obtain ⟨V1, hV1⟩ : ∃ V1, V1 = w1.alloc (.cells #[.int .u8 97, .int .u8 98] 5 (2, 3)) := ⟨_, rfl⟩
  have kc1 := Lib.run_convert_bytes_const (P := Try.prog) w1 33 5 #[.int .u8 97, .int .u8 98] 2 2 Try.underlying33 Try.underlying5
  have e11 : w1.alloc (.cells #[.int .u8 97, .int .u8 98] 5 ((#[.int .u8 97, .int .u8 98] : Array Value).size, (#[.int .u8 97, .int .u8 98] : Array Value).size + 1)) = V1 := hV1.symm
  rw [e11] at kc1
  have hr1 : V1.heap[w1.heap.size]? = some (.cells #[.int .u8 97, .int .u8 98] 5 (2, 3)) := by rw [hV1]; exact heap_alloc_new w1 _
  have hA1 : Arr V1 M aw0 lab := by rw [hV1]; exact h1.alloc _
  have sV1 : Stp (fun _ => none) lab w V1 := by rw [hV1]; exact st01.alloc _
  have HP1 : Hid (Calls Try.prog 9 #[ptr M.a 0, num 0, num 0, num 0, .slice (some ⟨w1.heap.size, 0, none⟩) 2 2] V1 (OpPost V1 M lab (aw1, 0))) :=
    Program_done hA1 B0 (by decide) 0 0 0 w1.heap.size 0 2 rfl (by decide) (by decide) (by decide) rfl (bs := [97, 98]) (src_two hr1 (by decide) (by decide)) rfl (by decide) (h1.fresh (Nat.le_refl _))
  clear hV1 hr1 hA1 HN h1 e11
  go_wp2_with fail
  refine HP1.out.mono ?_
  rintro e w2 ⟨lab2, rfl, h2, st2⟩
  have HR2 : Hid (Calls Try.prog 11 #[ptr M.a 0, num 0, num 0, num 0] w2 (ReadPost w2 M lab2 (aw2, some [97, 98], 0))) :=
    Read_done0 h2 B1 (by decide) 0 0 0 rfl (by decide) (by decide) (by decide) rfl
  have st02 := sV1.trans st2
  clear st2 HP1 sV1 kc1
  go_wp2_with fail
  refine HR2.out.mono ?_
  rintro e w3 ⟨lab3, v3, rfl, h3, st3, hv3⟩
  obtain ⟨bs3, g3, e3, rfl, hg3, hl3, hr3, hle3⟩ := hv3.resolve_left (fun e => by cases e.1)
  obtain rfl : bs3 = [97, 98] := (Option.some.inj e3).symm
  have st03 := st02.trans st3
  obtain ⟨V3, hV3⟩ : ∃ V3, V3 = w3.alloc (.cells #[.int .u8 99, .int .u8 100] 5 (2, 3)) := ⟨_, rfl⟩
  have kc3 := Lib.run_convert_bytes_const (P := Try.prog) w3 33 5 #[.int .u8 99, .int .u8 100] 2 2 Try.underlying33 Try.underlying5
  have e33 : w3.alloc (.cells #[.int .u8 99, .int .u8 100] 5 ((#[.int .u8 99, .int .u8 100] : Array Value).size, (#[.int .u8 99, .int .u8 100] : Array Value).size + 1)) = V3 := hV3.symm
  rw [e33] at kc3
  have hr4 : V3.heap[w3.heap.size]? = some (.cells #[.int .u8 99, .int .u8 100] 5 (2, 3)) := by rw [hV3]; exact heap_alloc_new w3 _
  have hgV3 : w3.grownBy V3 none := by rw [hV3]; exact World.grownBy_alloc w3 _ none
  have hA3 : Arr V3 M aw2 lab3 := h3.more hgV3
  have sV3 := st03.grown hgV3
  have HP3 : Hid (Calls Try.prog 9 #[ptr M.a 0, num 0, num 0, num 1, .slice (some ⟨w3.heap.size, 0, none⟩) 2 2] V3 (OpPost V3 M lab3 (aw3, 40))) :=
    Program_done hA3 B2 (by decide) 0 0 1 w3.heap.size 0 2 rfl (by decide) (by decide) (by decide) rfl (bs := [99, 100]) (src_two hr4 (by decide) (by decide)) rfl (by decide) (h3.fresh (Nat.le_refl _))
  have hrV : V3.heap[g3]? = some (.cells (valsB [97, 98]).toArray 5) := by rw [hgV3.block g3 (lt_of_heap hr3) (by simp)]; exact hr3
  clear hV3 hr4 hA3 HR2 h3 st3 st02 st03 e3 hgV3 hr3 e33
  go_wp2_with fail
  refine HP3.out.mono ?_
  rintro e w4 ⟨lab4, rfl, h4, st4⟩
  have hr4 : w4.heap[g3]? = some (.cells (valsB [97, 98]).toArray 5) := by rw [st4.same g3 (lt_of_heap hrV) hl3]; exact hrV
  have hl4 : lab4 g3 = none := st4.no (lt_of_heap hrV) hl3
  have st04 := sV3.trans st4
  have HPo : Hid (Calls Try.prog 7 #[ptr M.a 0] w4 fun e w' => e = .returned (.bool false) ∧ w' = w4) := power_ok h4
  have HOn : Hid (Calls Try.prog 12 #[ptr M.a 0] w4 fun e w' => e = .returned (.tuple #[]) ∧ Arr w' M aw4 lab4 ∧ Stp lab4 lab4 w4 w') := on_ok h4
  clear st4 hrV HP3 sV3 kc3
  go_wp2_with fail
  refine HPo.out.mono ?_
  rintro e w4 ⟨rfl, rfl⟩
  go_wp2_with fail
  refine HOn.out.mono ?_
  rintro e w5 ⟨rfl, h5, st5⟩
  have hr5 : w5.heap[g3]? = some (.cells (valsB [97, 98]).toArray 5) := by rw [st5.same g3 (lt_of_heap hr4) hl4]; exact hr4
  have hl5 : lab4 g3 = none := hl4
  have st05 := st04.trans st5
  have HR5 : Hid (Calls Try.prog 11 #[ptr M.a 0, num 0, num 0, num 1] w5 (ReadPost w5 M lab4 (aw5, some [99, 255], 0))) :=
    Read_done0 h5 B4 (by decide) 0 0 1 rfl (by decide) (by decide) (by decide) rfl
  clear HPo HOn st5 st04 hr4
  go_wp2_with fail
  refine HR5.out.mono ?_
  rintro e w6 ⟨lab6, v6, rfl, h6, st6, hv6⟩
  obtain ⟨bs6, g6, e6, rfl, hg6, hl6, hr6, hle6⟩ := hv6.resolve_left (fun e => by cases e.1)
  obtain rfl : bs6 = [99, 255] := (Option.some.inj e6).symm
  have hr7 : w6.heap[g3]? = some (.cells (valsB [97, 98]).toArray 5) := by rw [st6.same g3 (lt_of_heap hr5) hl5]; exact hr5
  have cv1 : (convert 33 9 (.slice (some ⟨g3, 0, none⟩) 2 2)).run Try.prog w6 = .ok (.string ⟨#[97, 98]⟩) w6 := by
    have := conv_ok (Src.of_row hr7 hle3) 2
    rw [str_ab] at this
    exact this
  have cv2 : (convert 33 9 (.slice (some ⟨g6, 0, none⟩) 2 2)).run Try.prog w6 = .ok (.string ⟨#[99, 255]⟩) w6 := by
    have := conv_ok (Src.of_row hr6 hle6) 2
    rw [str_cx] at this
    exact this
  have st06 := st05.trans st6
  have HNx : Hid (Calls Try.prog 8 #[ptr M.a 0, num 0, num 0] w6 fun e w' => e = .returned (num 2) ∧ w' = w6) := next_ok h6 0 0 (by decide) (by decide)
  have HOp : Hid (Calls Try.prog 14 #[ptr M.a 0] w6 fun e w' => e = .returned (num 4) ∧ w6.grownBy w' none) := ops_ok h6 B5 (by decide)
  clear HR5 st6 st05 hr5 e6 hr7 hr6
  go_wp2_with fail
  refine HNx.out.mono ?_
  rintro e w6 ⟨rfl, rfl⟩
  go_wp2_with fail
  refine HOp.out.mono ?_
  rintro e w7 ⟨rfl, hg7⟩
  go_wp2
  go_ret
  exact ⟨rfl, grownBy_trans st06.grownBy hg7⟩
end Nd
end Go.Proofs.Ytojamicakkecbab
