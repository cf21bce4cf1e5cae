/- Layer 4 (nand): the walk of lay, for all faults but flips. -/
import Derived.Test.YtojamicakkecbabNq
namespace Go.Proofs.Ytojamicakkecbab
open Go.RowKit Go.Maps
namespace Nd
theorem upB_congr {A : St} {d b : Nat} {f g : Blk → Blk} (h : f (A.blk d b) = g (A.blk d b)) : A.upB d b f = A.upB d b g := by
  unfold St.upB; rw [h]
theorem upB_upB (A : St) (d b : Nat) (f g : Blk → Blk) : (A.upB d b f).upB d b g = A.upB d b (fun x => g (f x)) := by
  unfold St.upB St.setBlk
  simp only [and_self, if_true]
  congr 1
  funext i j
  split <;> rfl
set_option maxHeartbeats 1600000 in
set_option maxRecDepth 4000 in
theorem lay_2 {w : World} {M : Lay} {A : St} {lab : Lab} (h : Arr w M A lab) {at_ page times part : Int} {d b : Nat} {bits : List Int} {ba : Option Addr} {bc : Nat} (hd : d < A.D) (hb : b < A.B) :
    Calls Try.prog 18 #[ptr M.a 0, fltV ⟨2, at_, d, b, page, times, part, bits, ba, bc⟩] w fun e w' => e = .returned (.tuple #[]) ∧ Arr w' M (A.lay ⟨2, at_, d, b, page, times, part, bits, ba, bc⟩) lab ∧ Stp lab lab w w' := by
  obtain ⟨W, hW⟩ : ∃ W, W = w.alloc (.cells (fltL ⟨2, at_, d, b, page, times, part, bits, ba, bc⟩).toArray 47) := ⟨_, rfl⟩
  have hgW : w.grownBy W none := by rw [hW]; exact World.grownBy_alloc w _ none
  have hbox : W.heap[w.heap.size]? = some (.cells (fltL ⟨2, at_, d, b, page, times, part, bits, ba, bc⟩).toArray 47) := by rw [hW]; exact heap_alloc_new w _
  have Hw : Hid _ := hW
  have hA : Arr W M A lab := h.more hgW
  have st : Stp lab lab w W := (Stp.refl _ _).grown hgW
  have f0 : W.cell? ⟨w.heap.size, 0, none⟩ = some (num 2) := (At.of_row (o := 0) hbox rfl).1
  have f1 : W.cell? ⟨w.heap.size, 1, none⟩ = some (num at_) := (At.of_row (o := 1) hbox rfl).1
  have f2 : W.cell? ⟨w.heap.size, 2, none⟩ = some (num d) := (At.of_row (o := 2) hbox rfl).1
  have f3 : W.cell? ⟨w.heap.size, 3, none⟩ = some (num b) := (At.of_row (o := 3) hbox rfl).1
  have f6 : W.cell? ⟨w.heap.size, 6, none⟩ = some (num part) := (At.of_row (o := 6) hbox rfl).1
  have c5 := hA.cDs.1
  have c6 := hA.cMp.1
  obtain ⟨dd, dz⟩ := (hA.die d hd).1
  have db := (hA.die d hd).2.1
  have hx := hA.blk d b hd hb
  obtain ⟨x2, z2⟩ := hx.marked
  obtain ⟨x3, z3⟩ := hx.noP
  obtain ⟨x4, z4⟩ := hx.noE
  have b1 : (d : Int) < (A.D : Int) := by omega
  have b2 : (b : Int) < (A.B : Int) := by omega
  have b3 : (A.D : Int) ≤ 8 := by have := h.dims.d2; omega
  have b4 : (A.B : Int) ≤ 64 := by have := h.dims.b2; omega
  have hnn := hnot
  have HFo : Hid (Try.prog.follows .mixedOrders = true) := follows_mixed
  have HE : Hid (∀ nq, Arr ((W.drewN nq).drew.setCell ⟨M.bk d, b * 7 + 3, none⟩ (num (if at_ < (A.blk d b).noP then at_ else (A.blk d b).noP))) M (A.lay ⟨2, at_, d, b, page, times, part, bits, ba, bc⟩) lab ∧ Stp lab lab w ((W.drewN nq).drew.setCell ⟨M.bk d, b * 7 + 3, none⟩ (num (if at_ < (A.blk d b).noP then at_ else (A.blk d b).noP)))) := fun nq => by
    have h4 := ((hA.drewN nq).drew).noPset hd hb (if at_ < (A.blk d b).noP then at_ else (A.blk d b).noP)
    refine ⟨?_, ((st.drewN nq).drew).set (.inl (by rw [h.lbk d hd]; simp)) _⟩
    have e : A.lay ⟨2, at_, d, b, page, times, part, bits, ba, bc⟩ = A.upB d b (fun x => { x with noP := if at_ < (A.blk d b).noP then at_ else (A.blk d b).noP }) := by
      simp only [St.lay]
      exact upB_congr rfl
    rw [e]
    exact h4
  clear hW hbox
  go_enter Try.func18, Try.ntmps18
  go_wp2_with (rw [← Hw.out])
  go_quiet (fail)
  revert nq
  intro n1
  go_wp2_with fail
  go_quiet (fail)
  revert nq
  intro n2
  go_wp2_with fail
  have HE2 := HE.out (n1 + n2)
  obtain ⟨V, hV⟩ : ∃ V, V = W.drewN (n1 + n2) := ⟨_, rfl⟩
  have g1 : V.cell? ⟨w.heap.size, 1, none⟩ = some (num at_) := by rw [hV]; exact f1
  obtain ⟨dd', dz'⟩ : At V M.ds (d * 2) (num (A.dead d)) := by rw [hV]; exact ⟨dd, dz⟩
  obtain ⟨x3', z3'⟩ : At V (M.bk d) (b * 7 + 3) (num (A.blk d b).noP) := by rw [hV]; exact ⟨x3, z3⟩
  obtain ⟨x4', z4'⟩ : At V (M.bk d) (b * 7 + 4) (num (A.blk d b).noE) := by rw [hV]; exact ⟨x4, z4⟩
  rw [← hV] at HE2
  rw [← hV]
  obtain ⟨m, hm⟩ : ∃ m : Int, (if at_ < (A.blk d b).noP then at_ else (A.blk d b).noP) = m := ⟨_, rfl⟩
  rw [hm] at HE2
  have HK : Hid _ := hm
  have HE3 : Hid _ := HE2
  clear hm HE2 HE hV f0 f1 f2 f3 f6 c5 c6 dd dz db x2 z2 x3 z3 x4 z4 hx
  go_still_tail 10, HFo.out
  rw [HK.out]
  change wpList _ _ _ _ _ (V.drew)
  go_wp2
  go_end0
  exact ⟨rfl, HE3.out.1, HE3.out.2⟩
set_option maxHeartbeats 1600000 in
set_option maxRecDepth 4000 in
theorem lay_3 {w : World} {M : Lay} {A : St} {lab : Lab} (h : Arr w M A lab) {at_ page times part : Int} {d b : Nat} {bits : List Int} {ba : Option Addr} {bc : Nat} (hd : d < A.D) (hb : b < A.B) :
    Calls Try.prog 18 #[ptr M.a 0, fltV ⟨3, at_, d, b, page, times, part, bits, ba, bc⟩] w fun e w' => e = .returned (.tuple #[]) ∧ Arr w' M (A.lay ⟨3, at_, d, b, page, times, part, bits, ba, bc⟩) lab ∧ Stp lab lab w w' := by
  obtain ⟨W, hW⟩ : ∃ W, W = w.alloc (.cells (fltL ⟨3, at_, d, b, page, times, part, bits, ba, bc⟩).toArray 47) := ⟨_, rfl⟩
  have hgW : w.grownBy W none := by rw [hW]; exact World.grownBy_alloc w _ none
  have hbox : W.heap[w.heap.size]? = some (.cells (fltL ⟨3, at_, d, b, page, times, part, bits, ba, bc⟩).toArray 47) := by rw [hW]; exact heap_alloc_new w _
  have Hw : Hid _ := hW
  have hA : Arr W M A lab := h.more hgW
  have st : Stp lab lab w W := (Stp.refl _ _).grown hgW
  have f0 : W.cell? ⟨w.heap.size, 0, none⟩ = some (num 3) := (At.of_row (o := 0) hbox rfl).1
  have f1 : W.cell? ⟨w.heap.size, 1, none⟩ = some (num at_) := (At.of_row (o := 1) hbox rfl).1
  have f2 : W.cell? ⟨w.heap.size, 2, none⟩ = some (num d) := (At.of_row (o := 2) hbox rfl).1
  have f3 : W.cell? ⟨w.heap.size, 3, none⟩ = some (num b) := (At.of_row (o := 3) hbox rfl).1
  have f6 : W.cell? ⟨w.heap.size, 6, none⟩ = some (num part) := (At.of_row (o := 6) hbox rfl).1
  have c5 := hA.cDs.1
  have c6 := hA.cMp.1
  obtain ⟨dd, dz⟩ := (hA.die d hd).1
  have db := (hA.die d hd).2.1
  have hx := hA.blk d b hd hb
  obtain ⟨x2, z2⟩ := hx.marked
  obtain ⟨x3, z3⟩ := hx.noP
  obtain ⟨x4, z4⟩ := hx.noE
  have b1 : (d : Int) < (A.D : Int) := by omega
  have b2 : (b : Int) < (A.B : Int) := by omega
  have b3 : (A.D : Int) ≤ 8 := by have := h.dims.d2; omega
  have b4 : (A.B : Int) ≤ 64 := by have := h.dims.b2; omega
  have hnn := hnot
  have HFo : Hid (Try.prog.follows .mixedOrders = true) := follows_mixed
  have HE : Hid (∀ nq, Arr ((W.drewN nq).drew.setCell ⟨M.bk d, b * 7 + 4, none⟩ (num (if at_ < (A.blk d b).noE then at_ else (A.blk d b).noE))) M (A.lay ⟨3, at_, d, b, page, times, part, bits, ba, bc⟩) lab ∧ Stp lab lab w ((W.drewN nq).drew.setCell ⟨M.bk d, b * 7 + 4, none⟩ (num (if at_ < (A.blk d b).noE then at_ else (A.blk d b).noE)))) := fun nq => by
    have h4 := ((hA.drewN nq).drew).noEset hd hb (if at_ < (A.blk d b).noE then at_ else (A.blk d b).noE)
    refine ⟨?_, ((st.drewN nq).drew).set (.inl (by rw [h.lbk d hd]; simp)) _⟩
    have e : A.lay ⟨3, at_, d, b, page, times, part, bits, ba, bc⟩ = A.upB d b (fun x => { x with noE := if at_ < (A.blk d b).noE then at_ else (A.blk d b).noE }) := by
      simp only [St.lay]
      exact upB_congr rfl
    rw [e]
    exact h4
  clear hW hbox
  go_enter Try.func18, Try.ntmps18
  go_wp2_with (rw [← Hw.out])
  go_quiet (fail)
  revert nq
  intro n1
  go_wp2_with fail
  go_quiet (fail)
  revert nq
  intro n2
  go_wp2_with fail
  have HE2 := HE.out (n1 + n2)
  obtain ⟨V, hV⟩ : ∃ V, V = W.drewN (n1 + n2) := ⟨_, rfl⟩
  have g1 : V.cell? ⟨w.heap.size, 1, none⟩ = some (num at_) := by rw [hV]; exact f1
  obtain ⟨dd', dz'⟩ : At V M.ds (d * 2) (num (A.dead d)) := by rw [hV]; exact ⟨dd, dz⟩
  obtain ⟨x3', z3'⟩ : At V (M.bk d) (b * 7 + 3) (num (A.blk d b).noP) := by rw [hV]; exact ⟨x3, z3⟩
  obtain ⟨x4', z4'⟩ : At V (M.bk d) (b * 7 + 4) (num (A.blk d b).noE) := by rw [hV]; exact ⟨x4, z4⟩
  rw [← hV] at HE2
  rw [← hV]
  obtain ⟨m, hm⟩ : ∃ m : Int, (if at_ < (A.blk d b).noE then at_ else (A.blk d b).noE) = m := ⟨_, rfl⟩
  rw [hm] at HE2
  have HK : Hid _ := hm
  have HE3 : Hid _ := HE2
  clear hm HE2 HE hV f0 f1 f2 f3 f6 c5 c6 dd dz db x2 z2 x3 z3 x4 z4 hx
  go_still_tail 10, HFo.out
  rw [HK.out]
  change wpList _ _ _ _ _ (V.drew)
  go_wp2
  go_end0
  exact ⟨rfl, HE3.out.1, HE3.out.2⟩
set_option maxHeartbeats 1600000 in
set_option maxRecDepth 4000 in
theorem lay_4 {w : World} {M : Lay} {A : St} {lab : Lab} (h : Arr w M A lab) {at_ page times part : Int} {d b : Nat} {bits : List Int} {ba : Option Addr} {bc : Nat} (hd : d < A.D) (hb : b < A.B) :
    Calls Try.prog 18 #[ptr M.a 0, fltV ⟨4, at_, d, b, page, times, part, bits, ba, bc⟩] w fun e w' => e = .returned (.tuple #[]) ∧ Arr w' M (A.lay ⟨4, at_, d, b, page, times, part, bits, ba, bc⟩) lab ∧ Stp lab lab w w' := by
  obtain ⟨W, hW⟩ : ∃ W, W = w.alloc (.cells (fltL ⟨4, at_, d, b, page, times, part, bits, ba, bc⟩).toArray 47) := ⟨_, rfl⟩
  have hgW : w.grownBy W none := by rw [hW]; exact World.grownBy_alloc w _ none
  have hbox : W.heap[w.heap.size]? = some (.cells (fltL ⟨4, at_, d, b, page, times, part, bits, ba, bc⟩).toArray 47) := by rw [hW]; exact heap_alloc_new w _
  have Hw : Hid _ := hW
  have hA : Arr W M A lab := h.more hgW
  have st : Stp lab lab w W := (Stp.refl _ _).grown hgW
  have f0 : W.cell? ⟨w.heap.size, 0, none⟩ = some (num 4) := (At.of_row (o := 0) hbox rfl).1
  have f1 : W.cell? ⟨w.heap.size, 1, none⟩ = some (num at_) := (At.of_row (o := 1) hbox rfl).1
  have f2 : W.cell? ⟨w.heap.size, 2, none⟩ = some (num d) := (At.of_row (o := 2) hbox rfl).1
  have f3 : W.cell? ⟨w.heap.size, 3, none⟩ = some (num b) := (At.of_row (o := 3) hbox rfl).1
  have f6 : W.cell? ⟨w.heap.size, 6, none⟩ = some (num part) := (At.of_row (o := 6) hbox rfl).1
  have c5 := hA.cDs.1
  have c6 := hA.cMp.1
  obtain ⟨dd, dz⟩ := (hA.die d hd).1
  have db := (hA.die d hd).2.1
  have hx := hA.blk d b hd hb
  obtain ⟨x2, z2⟩ := hx.marked
  obtain ⟨x3, z3⟩ := hx.noP
  obtain ⟨x4, z4⟩ := hx.noE
  have b1 : (d : Int) < (A.D : Int) := by omega
  have b2 : (b : Int) < (A.B : Int) := by omega
  have b3 : (A.D : Int) ≤ 8 := by have := h.dims.d2; omega
  have b4 : (A.B : Int) ≤ 64 := by have := h.dims.b2; omega
  have hnn := hnot
  have HFo : Hid (Try.prog.follows .mixedOrders = true) := follows_mixed
  have HE : Hid (∀ nq, Arr ((W.drewN nq).drew.setCell ⟨M.ds, d * 2, none⟩ (num (if at_ < A.dead d then at_ else A.dead d))) M (A.lay ⟨4, at_, d, b, page, times, part, bits, ba, bc⟩) lab ∧ Stp lab lab w ((W.drewN nq).drew.setCell ⟨M.ds, d * 2, none⟩ (num (if at_ < A.dead d then at_ else A.dead d)))) := fun nq => by
    have h4 := ((hA.drewN nq).drew).deadset hd (if at_ < A.dead d then at_ else A.dead d)
    exact ⟨by simpa [St.lay] using h4, ((st.drewN nq).drew).set (.inl (by rw [h.lds]; simp)) _⟩
  clear hW hbox
  go_enter Try.func18, Try.ntmps18
  go_wp2_with (rw [← Hw.out])
  go_quiet (fail)
  revert nq
  intro n1
  go_wp2_with fail
  go_quiet (fail)
  revert nq
  intro n2
  go_wp2_with fail
  have HE2 := HE.out (n1 + n2)
  obtain ⟨V, hV⟩ : ∃ V, V = W.drewN (n1 + n2) := ⟨_, rfl⟩
  have g1 : V.cell? ⟨w.heap.size, 1, none⟩ = some (num at_) := by rw [hV]; exact f1
  obtain ⟨dd', dz'⟩ : At V M.ds (d * 2) (num (A.dead d)) := by rw [hV]; exact ⟨dd, dz⟩
  obtain ⟨x3', z3'⟩ : At V (M.bk d) (b * 7 + 3) (num (A.blk d b).noP) := by rw [hV]; exact ⟨x3, z3⟩
  obtain ⟨x4', z4'⟩ : At V (M.bk d) (b * 7 + 4) (num (A.blk d b).noE) := by rw [hV]; exact ⟨x4, z4⟩
  rw [← hV] at HE2
  rw [← hV]
  obtain ⟨m, hm⟩ : ∃ m : Int, (if at_ < A.dead d then at_ else A.dead d) = m := ⟨_, rfl⟩
  rw [hm] at HE2
  have HK : Hid _ := hm
  have HE3 : Hid _ := HE2
  clear hm HE2 HE hV f0 f1 f2 f3 f6 c5 c6 dd dz db x2 z2 x3 z3 x4 z4 hx
  go_still_tail 10, HFo.out
  rw [HK.out]
  change wpList _ _ _ _ _ (V.drew)
  go_wp2
  go_end0
  exact ⟨rfl, HE3.out.1, HE3.out.2⟩
set_option maxHeartbeats 1600000 in
set_option maxRecDepth 4000 in
theorem lay_6 {w : World} {M : Lay} {A : St} {lab : Lab} (h : Arr w M A lab) {at_ page times part : Int} {d b : Nat} {bits : List Int} {ba : Option Addr} {bc : Nat} (hd : d < A.D) (hb : b < A.B) :
    Calls Try.prog 18 #[ptr M.a 0, fltV ⟨6, at_, d, b, page, times, part, bits, ba, bc⟩] w fun e w' => e = .returned (.tuple #[]) ∧ Arr w' M (A.lay ⟨6, at_, d, b, page, times, part, bits, ba, bc⟩) lab ∧ Stp lab lab w w' := by
  obtain ⟨W, hW⟩ : ∃ W, W = w.alloc (.cells (fltL ⟨6, at_, d, b, page, times, part, bits, ba, bc⟩).toArray 47) := ⟨_, rfl⟩
  have hgW : w.grownBy W none := by rw [hW]; exact World.grownBy_alloc w _ none
  have hbox : W.heap[w.heap.size]? = some (.cells (fltL ⟨6, at_, d, b, page, times, part, bits, ba, bc⟩).toArray 47) := by rw [hW]; exact heap_alloc_new w _
  have Hw : Hid _ := hW
  have hA : Arr W M A lab := h.more hgW
  have st : Stp lab lab w W := (Stp.refl _ _).grown hgW
  have f0 : W.cell? ⟨w.heap.size, 0, none⟩ = some (num 6) := (At.of_row (o := 0) hbox rfl).1
  have f1 : W.cell? ⟨w.heap.size, 1, none⟩ = some (num at_) := (At.of_row (o := 1) hbox rfl).1
  have f2 : W.cell? ⟨w.heap.size, 2, none⟩ = some (num d) := (At.of_row (o := 2) hbox rfl).1
  have f3 : W.cell? ⟨w.heap.size, 3, none⟩ = some (num b) := (At.of_row (o := 3) hbox rfl).1
  have f6 : W.cell? ⟨w.heap.size, 6, none⟩ = some (num part) := (At.of_row (o := 6) hbox rfl).1
  have c5 := hA.cDs.1
  have c6 := hA.cMp.1
  obtain ⟨dd, dz⟩ := (hA.die d hd).1
  have db := (hA.die d hd).2.1
  have hx := hA.blk d b hd hb
  obtain ⟨x2, z2⟩ := hx.marked
  obtain ⟨x3, z3⟩ := hx.noP
  obtain ⟨x4, z4⟩ := hx.noE
  have b1 : (d : Int) < (A.D : Int) := by omega
  have b2 : (b : Int) < (A.B : Int) := by omega
  have b3 : (A.D : Int) ≤ 8 := by have := h.dims.d2; omega
  have b4 : (A.B : Int) ≤ 64 := by have := h.dims.b2; omega
  have hnn := hnot
  have HFo : Hid (Try.prog.follows .mixedOrders = true) := follows_mixed
  have HE : Hid (∀ nq, Arr ((((W.drewN nq).setCell ⟨M.bk d, b * 7 + 3, none⟩ (num 0)).setCell ⟨M.bk d, b * 7 + 4, none⟩ (num 0)).setCell ⟨M.bk d, b * 7 + 2, none⟩ (.bool true)) M (A.lay ⟨6, at_, d, b, page, times, part, bits, ba, bc⟩) lab ∧ Stp lab lab w ((((W.drewN nq).setCell ⟨M.bk d, b * 7 + 3, none⟩ (num 0)).setCell ⟨M.bk d, b * 7 + 4, none⟩ (num 0)).setCell ⟨M.bk d, b * 7 + 2, none⟩ (.bool true))) := fun nq => by
    have h4 := (((hA.drewN nq).noPset hd hb 0).noEset hd hb 0).markset hd hb
    have hl : lab (M.bk d) ≠ none := by rw [h.lbk d hd]; simp
    refine ⟨?_, (((st.drewN nq).set (.inl hl) _).set (.inl hl) _).set (.inl hl) _⟩
    have e : A.lay ⟨6, at_, d, b, page, times, part, bits, ba, bc⟩ = ((A.upB d b (fun x => { x with noP := 0 })).upB d b (fun x => { x with noE := 0 })).upB d b (fun x => { x with marked := true }) := by
      rw [upB_upB, upB_upB]
      simp only [St.lay]
      exact upB_congr rfl
    rw [e]
    exact h4
  clear hW hbox
  go_enter Try.func18, Try.ntmps18
  go_wp2_with (rw [← Hw.out])
  go_quiet (fail)
  revert nq
  intro n1
  go_wp2_with fail
  go_quiet (fail)
  revert nq
  intro n2
  go_wp2_with fail
  go_end0
  exact ⟨rfl, (HE.out _).1, (HE.out _).2⟩
set_option maxHeartbeats 1600000 in
set_option maxRecDepth 4000 in
theorem lay_5 {w : World} {M : Lay} {A : St} {lab : Lab} (h : Arr w M A lab) {at_ page times part : Int} {d b : Nat} {bits : List Int} {ba : Option Addr} {bc : Nat} (hd : d < A.D) (hb : b < A.B) (hat : I64 at_) (hpt : I64 part) (hnc : A.nc ≤ 2000) :
    Calls Try.prog 18 #[ptr M.a 0, fltV ⟨5, at_, d, b, page, times, part, bits, ba, bc⟩] w fun e w' => e = .returned (.tuple #[]) ∧ Arr w' M (A.lay ⟨5, at_, d, b, page, times, part, bits, ba, bc⟩) lab ∧ Stp lab lab w w' := by
  obtain ⟨W, hW⟩ : ∃ W, W = w.alloc (.cells (fltL ⟨5, at_, d, b, page, times, part, bits, ba, bc⟩).toArray 47) := ⟨_, rfl⟩
  have hgW : w.grownBy W none := by rw [hW]; exact World.grownBy_alloc w _ none
  have hbox : W.heap[w.heap.size]? = some (.cells (fltL ⟨5, at_, d, b, page, times, part, bits, ba, bc⟩).toArray 47) := by rw [hW]; exact heap_alloc_new w _
  have Hw : Hid _ := hW
  have hA : Arr W M A lab := h.more hgW
  have st : Stp lab lab w W := (Stp.refl _ _).grown hgW
  have f0 : W.cell? ⟨w.heap.size, 0, none⟩ = some (num 5) := (At.of_row (o := 0) hbox rfl).1
  have f1 : W.cell? ⟨w.heap.size, 1, none⟩ = some (num at_) := (At.of_row (o := 1) hbox rfl).1
  have f2 : W.cell? ⟨w.heap.size, 2, none⟩ = some (num d) := (At.of_row (o := 2) hbox rfl).1
  have f3 : W.cell? ⟨w.heap.size, 3, none⟩ = some (num b) := (At.of_row (o := 3) hbox rfl).1
  have f6 : W.cell? ⟨w.heap.size, 6, none⟩ = some (num part) := (At.of_row (o := 6) hbox rfl).1
  have c5 := hA.cDs.1
  have c6 := hA.cMp.1
  obtain ⟨dd, dz⟩ := (hA.die d hd).1
  have db := (hA.die d hd).2.1
  have hx := hA.blk d b hd hb
  obtain ⟨x2, z2⟩ := hx.marked
  obtain ⟨x3, z3⟩ := hx.noP
  obtain ⟨x4, z4⟩ := hx.noE
  have b1 : (d : Int) < (A.D : Int) := by omega
  have b2 : (b : Int) < (A.B : Int) := by omega
  have b3 : (A.D : Int) ≤ 8 := by have := h.dims.d2; omega
  have b4 : (A.B : Int) ≤ 64 := by have := h.dims.b2; omega
  have hnn := hnot
  have HFo : Hid (Try.prog.follows .mixedOrders = true) := follows_mixed
  have hmp : lab M.mp = some .mp := h.lmp
  cases hcut : A.cuts at_ with
  | some v0 =>
    have hlk : ∀ nq, (Instr.lookup 51 (.map (some M.mp)) (num at_) true).run Try.prog (W.drewN nq) = .ok (.tuple #[num v0, .bool true]) (W.drewN nq) := fun nq => by
      have := (hA.drewN nq).cuts.look hat
      rw [partV, hcut] at this
      exact this
    have HE : Hid (A.lay ⟨5, at_, d, b, page, times, part, bits, ba, bc⟩ = A) := by simp [Hid, St.lay, hcut]
    clear hcut
    clear hW hbox
    go_enter Try.func18, Try.ntmps18
    go_wp2_with (rw [← Hw.out])
    go_quiet (fail)
    revert nq
    intro n1
    go_wp2_with fail
    go_quiet (fail)
    revert nq
    intro n2
    go_wp2_with fail
    go_quiet (fail)
    go_wp2_with fail
    go_end0
    rw [HE.out]
    exact ⟨rfl, hA.drewN _, st.drewN _⟩
  | none =>
    have hlk : ∀ nq, (Instr.lookup 51 (.map (some M.mp)) (num at_) true).run Try.prog (W.drewN nq) = .ok (.tuple #[num 0, .bool false]) (W.drewN nq) := fun nq => by
      have := (hA.drewN nq).cuts.look hat
      rw [partV, hcut] at this
      exact this
    have HE : Hid (A.lay ⟨5, at_, d, b, page, times, part, bits, ba, bc⟩ = A.addCut at_ part) := by simp [Hid, St.lay, hcut]
    clear hcut
    clear hW hbox
    go_enter Try.func18, Try.ntmps18
    go_wp2_with (rw [← Hw.out])
    go_quiet (fail)
    revert nq
    intro n1
    go_wp2_with fail
    go_quiet (fail)
    revert nq
    intro n2
    go_wp2_with fail
    go_quiet (fail)
    revert nq
    intro n3
    go_wp2_with fail
    obtain ⟨V, hV⟩ : ∃ V, V = W.drewN (n1 + n2 + n3) := ⟨_, rfl⟩
    have hAV : Arr V.drew M A lab := by rw [hV]; exact (hA.drewN _).drew
    have stV : Stp lab lab w V.drew := by rw [hV]; exact (st.drewN _).drew
    have g1 : V.cell? ⟨w.heap.size, 1, none⟩ = some (num at_) := by rw [hV]; exact f1
    have g6 : V.cell? ⟨w.heap.size, 6, none⟩ = some (num part) := by rw [hV]; exact f6
    have g7 : V.cell? ⟨M.a, 6, none⟩ = some (.map (some M.mp)) := by rw [hV]; exact c6
    rw [← hV]
    obtain ⟨w4, hrun, hc4, hg4⟩ := hAV.cuts.put hat hpt hnc
    have h4 := hAV.addCut hc4 hg4
    have st4 : Stp lab lab w w4 := ⟨hg4.os.trans stV.os, hg4.tape.trans stV.tape, hg4.output.trans stV.output, Nat.le_trans stV.size hg4.size, fun g hg hl => (hg4.block g (Nat.lt_of_lt_of_le hg stV.size) (by rintro e; have := Option.some.inj e; rw [this, hmp] at hl; cases hl)).trans (stV.same g hg hl), stV.own⟩
    clear hV f0 f1 f2 f3 f6 c5 c6 dd dz db x2 z2 x3 z3 x4 z4 hx hlk hc4 hg4 hAV stV
    go_still_tail 8, HFo.out
    change wpList _ _ _ _ _ (V.drew)
    go_wp2
    go_end0
    rw [HE.out]
    exact ⟨rfl, h4, st4⟩
end Nd
end Go.Proofs.Ytojamicakkecbab
