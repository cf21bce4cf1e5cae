/- Layer 8 (record): the reader's closure; All. -/
import Derived.Test.YtfmkmfjmhpgglaaDoorRj
namespace Go.Proofs.YtfmkmfjmhpgglaaDoor
open Go.RowKit
namespace Rc
open Cr
/-- What K doesn't name lies as it lay. -/
structure Stp (K : Nat → Prop) (w w' : World) : Prop where
  os : w'.os = w.os
  tape : w'.tape = w.tape
  output : w'.output = w.output
  size : w.heap.size ≤ w'.heap.size
  same : ∀ g, g < w.heap.size → ¬ K g → w'.heap[g]? = w.heap[g]?
theorem Stp.refl (K : Nat → Prop) (w : World) : Stp K w w := ⟨rfl, rfl, rfl, Nat.le_refl _, fun _ _ _ => rfl⟩
theorem Stp.trans {K : Nat → Prop} {a b c : World} (h : Stp K a b) (k : Stp K b c) : Stp K a c :=
  ⟨k.os.trans h.os, k.tape.trans h.tape, k.output.trans h.output, Nat.le_trans h.size k.size, fun g hg hk => (k.same g (Nat.lt_of_lt_of_le hg h.size) hk).trans (h.same g hg hk)⟩
theorem Stp.more {K L : Nat → Prop} {a b : World} (h : Stp K a b) (hk : ∀ g, K g → L g) : Stp L a b := ⟨h.os, h.tape, h.output, h.size, fun g hg hl => h.same g hg fun k => hl (hk g k)⟩
theorem Stp.of_grown {K : Nat → Prop} {a b : World} (h : a.grownBy b none) : Stp K a b := ⟨h.os, h.tape, h.output, h.size, fun g hg _ => h.block g hg (by simp)⟩
theorem Stp.drew {K : Nat → Prop} {a b : World} (h : Stp K a b) : Stp K a b.drew := ⟨h.os, h.tape, h.output, h.size, h.same⟩
theorem Stp.alloc {K : Nat → Prop} {a b : World} (h : Stp K a b) (o : Obj) : Stp K a (b.alloc o) := h.trans (.of_grown (World.grownBy_alloc b o none))
theorem Stp.set {K : Nat → Prop} {a b : World} (h : Stp K a b) {g o : Nat} (hg : K g ∨ a.heap.size ≤ g) (v : Value) : Stp K a (b.setCell ⟨g, o, none⟩ v) :=
  ⟨h.os, h.tape, h.output, by have := h.size; simp [World.setCell]; omega, fun x hx hl => by
    rw [setCell_else (by rintro rfl; rcases hg with e | e; exact hl e; omega)]; exact h.same x hx hl⟩
theorem Stp.obj {K : Nat → Prop} {a b : World} (h : Stp K a b) {g : Nat} {o : Obj} (hk : ¬ K g) (hc : a.heap[g]? = some o) : b.heap[g]? = some o := (h.same g (lt_of_heap hc) hk).trans hc
theorem Stp.row {K : Nat → Prop} {a b : World} (h : Stp K a b) {g : Nat} (hg : K g ∨ a.heap.size ≤ g) (cs : Array Value) : Stp K a (b.setRow g cs) :=
  ⟨h.os, h.tape, h.output, by have := h.size; simp [World.setRow]; omega, fun x hx hl => by
    rw [setRow_other _ _ _ _ (by rintro rfl; rcases hg with e | e; exact hl e; omega)]; exact h.same x hx hl⟩
/-- A step on what is new. -/
theorem Stp.new {K : Nat → Prop} {a b c : World} {g : Nat} (h : Stp K a b) (k : Stp (fun x => x = g) b c) (hg : a.heap.size ≤ g) : Stp K a c :=
  ⟨k.os.trans h.os, k.tape.trans h.tape, k.output.trans h.output, Nat.le_trans h.size k.size, fun x hx hl => (k.same x (Nat.lt_of_lt_of_le hx h.size) (by omega)).trans (h.same x hx hl)⟩
theorem wpList_store_recS {w : World} {ops : Array Oper} {rest : List Oper} {o : Oper} {a : Act} {Q : Exit → Act → World → Prop} (hgd : o.guard = none) (x y : Operand) (ho : o.op = .store 24 x y)
    (g : Nat) (r0 r : Rec) (hx : a.eval x = .pointer (some ⟨g, 0, none⟩)) (hy : a.eval y = recV r) (hg : w.heap[g]? = some (recL r0))
    (h : ∀ w', w'.heap[g]? = some (recL r) → Stp (fun x => x = g) w w' → wpList Tryd.prog ops Q rest (a.put o.dst undef) w') : wpList Tryd.prog ops Q (o :: rest) a w :=
  wpList_store_row hgd _ x y ho g _ hx hy 24 _ hg info24 rfl (by simp [Value.oneCell']) (h _ (setRow_heap _ _ _ _ _ _ hg) ((Stp.refl (fun x => x = g) w).row (.inl rfl) _))
/-- The record that stands at the k-th place; whether it belongs to the row. -/
def recK (b : List Nat) (k : Nat) : Rec := parR (b.drop (37 * k))
def Ok (b : List Nat) (k : Nat) : Prop := parE (b.drop (37 * k)) = 0 ∧ (k = 0 ∨ (recK b (k - 1)).seq < (recK b k).seq)
instance (b : List Nat) (k : Nat) : Decidable (Ok b k) := by unfold Ok; infer_instance
theorem Ok.len {b : List Nat} {k : Nat} (h : Ok b k) : 37 * (k + 1) ≤ b.length := by
  have h1 := h.1
  unfold parE at h1
  by_cases hl : (b.drop (37 * k)).length < 37
  · rw [if_pos hl] at h1; exact absurd h1 (by decide)
  · simp at hl; omega
set_option maxHeartbeats 1600000 in
theorem reader_ok {w : World} (v : Value) {ao : Option Addr} {l c : Nat} (hv : v = .slice ao l c) : Calls Tryd.prog 30 #[v] w fun e w' => e = .returned (.func (.func 32) #[] #[.pointer (some ⟨w.heap.size, 0, none⟩), .pointer (some ⟨w.heap.size + 1, 0, none⟩), .pointer (some ⟨w.heap.size + 2, 0, none⟩)]) ∧
    w' = ((w.alloc (.cells #[v] 25)).alloc (.cells #[num 0] 3)).alloc (.cells #[q64 0] 22) := by
  subst hv
  go_enter Tryd.func30, Tryd.ntmps30
  go_wp2
  go_ret
  exact ⟨rfl, rfl⟩
set_option maxHeartbeats 1600000 in
theorem All_ok {w : World} (ao : Option Addr) (cap : Nat) (bs : List Nat) (hx : RdB w ao bs) (hc : bs.length ≤ cap) (hcap : ao = none → cap = 0) (hl : bs.length ≤ 140737488355328) :
    Calls Tryd.prog 24 #[.slice ao bs.length cap] w fun e w' => ∃ B ao' cap', e = .returned (.func (.func 29) #[] #[.pointer (some ⟨B, 0, none⟩)]) ∧ w.heap.size ≤ B ∧ w'.heap[B]? = some (.cells #[.slice ao' bs.length cap'] 25) ∧ bs.length ≤ cap' ∧ (ao' = none → cap' = 0) ∧ RdB w' ao' bs ∧ w.grownBy w' none ∧ (∀ a, ao' = some a → w.heap.size ≤ a.block ∧ a.block < w'.heap.size) := by
  obtain ⟨V, hV⟩ : ∃ V, V = w.alloc (.cells #[.slice ao bs.length cap] 25) := ⟨_, rfl⟩
  have hgV : w.grownBy V none := by rw [hV]; exact World.grownBy_alloc w _ none
  have hbV : V.heap[w.heap.size]? = some (.cells #[.slice ao bs.length cap] 25) := by rw [hV]; exact heap_alloc_new w _
  have hszV : V.heap.size = w.heap.size + 1 := by rw [hV]; simp
  have HC := hide (Clone_ok ao cap bs (hx.more hgV) hc hcap hl)
  have HV := hide hV
  have HB := hide hbV
  have HG := hide hgV
  have cV : V.cell? ⟨w.heap.size, 0, none⟩ = some (.slice ao bs.length cap) := cell_at hbV rfl
  clear hV hgV hbV hx
  go_enter Tryd.func24, Tryd.ntmps24
  go_wp2_with (rw [← HV.out])
  refine HC.out.mono ?_
  rintro e w1 ⟨ao', cap', rfl, h1, h2, h3, h4, h5⟩
  have hb1 := obj_more HB.out h4
  have c0 : w1.cell? ⟨w.heap.size, 0, none⟩ = some (.slice ao bs.length cap) := cell_at hb1 rfl
  have f0 : w1.frozen? ⟨w.heap.size, 0, none⟩ = false := free_at hb1
  have hset := setCell_row (i := 0) (L := [.slice ao bs.length cap]) hb1 (.slice ao' bs.length cap')
  have hgw := grownBy_trans HG.out h4
  have hgs := grownBy_set (o := 0) hgw (Nat.le_refl _) (.slice ao' bs.length cap')
  have hrd : RdB (w1.setCell ⟨w.heap.size, 0, none⟩ (.slice ao' bs.length cap')) ao' bs := ⟨h3.1, h3.2.imp id fun ⟨g, off, e, hh⟩ => ⟨g, off, e, fun i hi => by
    have := (h5 _ e).1
    rw [cell_of_block (setCell_else (by simp at this; omega) _)]; exact hh i hi⟩⟩
  have HS := hide hset
  have HGs := hide hgs
  have HRd := hide hrd
  have H5 : Hid (∀ a, ao' = some a → w.heap.size ≤ a.block ∧ a.block < (w1.setCell ⟨w.heap.size, 0, none⟩ (.slice ao' bs.length cap')).heap.size) := fun a e => by have := h5 a e; simp [World.setCell]; omega
  clear hset hgs hrd h3 h4 h5 hb1 hgw HC HV HB HG
  go_wp2
  go_ret
  exact ⟨_, ao', cap', rfl, Nat.le_refl _, HS.out, h1, h2, HRd.out, HGs.out, H5.out⟩
/-- What the reader's closure does: a step, or the end. -/
def StepPost (b : List Nat) (k A C : Nat) (w : World) (e : Ending) (w' : World) : Prop :=
  Stp (fun g => g = A ∨ g = C) w w' ∧
  ((Ok b k ∧ e = .returned (.tuple #[recV (recK b k), .bool true]) ∧ w'.heap[A]? = some (.cells #[num (37 * (k + 1) : Nat)] 3) ∧ w'.heap[C]? = some (.cells #[q64 (recK b k).seq] 22)) ∨
   (¬ Ok b k ∧ e = .returned (.tuple #[recV noR, .bool false])))
theorem dec_lt (a b : Nat) : decide ((a : Int) < (b : Int)) = decide (a < b) := by simp
set_option maxHeartbeats 6400000 in
theorem reader1_ok {w : World} (hG : Glob w) {B A C : Nat} {ao : Option Addr} {cap : Nat} {b : List Nat} {k last : Nat} (hB : w.heap[B]? = some (.cells #[.slice ao b.length cap] 25)) (hA : w.heap[A]? = some (.cells #[num (37 * k : Nat)] 3)) (hC : w.heap[C]? = some (.cells #[q64 last] 22))
    (hx : RdB w ao b) (hc : b.length ≤ cap) (hcap : ao = none → cap = 0) (hl : b.length ≤ 140737488355328) (hk : 37 * k ≤ b.length) (hla : k ≠ 0 → last = (recK b (k - 1)).seq) :
    Calls Tryd.prog 32 #[.pointer (some ⟨B, 0, none⟩), .pointer (some ⟨A, 0, none⟩), .pointer (some ⟨C, 0, none⟩)] w (StepPost b k A C w) := by
  have HFo : Hid (Tryd.prog.follows .mixedOrders = true) := follows_mixed
  obtain ⟨W, hW⟩ : ∃ W, W = w.alloc recZ := ⟨_, rfl⟩
  have hgW : w.grownBy W none := by rw [hW]; exact World.grownBy_alloc w _ none
  have hbx : W.heap[w.heap.size]? = some (recL noR) := by rw [hW]; exact heap_alloc_new w recZ
  have oB := obj_more hB hgW
  have oA := obj_more hA hgW
  have oC := obj_more hC hgW
  obtain ⟨n, hn⟩ : ∃ n, n = 37 * k := ⟨_, rfl⟩
  have hd := rd_drop (hx.more hgW) hc hcap n (by omega)
  have hP := Parse_any (hG.more hgW) _ (cap - n) (b.drop n) hd (by simp; omega)
  rw [List.length_drop] at hP
  have cB : W.cell? ⟨B, 0, none⟩ = some (.slice ao b.length cap) := cell_at oB rfl
  have cA : W.cell? ⟨A, 0, none⟩ = some (num (n : Nat)) := by rw [hn]; exact cell_at oA rfl
  have n1 : (n : Int) ≤ (b.length : Int) := by omega
  have n2 : (b.length : Int) ≤ (cap : Int) := by omega
  obtain ⟨R, hR⟩ : ∃ R, R = recK b k := ⟨_, rfl⟩
  obtain ⟨E, hE⟩ : ∃ E, E = parE (b.drop n) := ⟨_, rfl⟩
  have HRk : Hid (parR (b.drop n) = R ∧ parE (b.drop n) = E ∧ recK b k = R) := ⟨by rw [hR, hn]; rfl, hE.symm, hR.symm⟩
  clear hR hE
  have HBx := hide hbx
  have HOA := hide oA
  have HOC := hide oC
  have HgW := hide hgW
  have Hw := hide hW
  have HN := hide hn
  by_cases hcn : cap = n
  · rw [if_pos hcn] at hP
    have h00 : cap - n = 0 := by omega
    rw [h00] at hP
    have HP := hide hP
    clear hP hbx oB oA oC hgW hW hn hd hx hB hA hC hG hc h00
    go_enter Tryd.func32, Tryd.ntmps32
    go_wp2_with (rw [← Hw.out])
    refine HP.out.mono fun e w2 hp2 => ?_
    rw [ParsePost, HRk.out.1, HRk.out.2.1] at hp2
    obtain ⟨rfl, hg2⟩ := hp2
    obtain ⟨V, hV⟩ : ∃ V, V = w2.alloc (.cells #[.int .i64 R.kind, .int .u64 R.seq, .int .u64 R.a, .int .u64 R.b, .int .u64 R.c] 24) := ⟨_, rfl⟩
    have hgV : w2.grownBy V none := by rw [hV]; exact World.grownBy_alloc w2 _ none
    have hbV : V.heap[w2.heap.size]? = some (recL R) := by rw [hV]; exact heap_alloc_new w2 _
    have hg2V := grownBy_trans hg2 hgV
    have bA := obj_more HOA.out hg2V
    have bC := obj_more HOC.out hg2V
    have bX := obj_more HBx.out hg2V
    have hAC : A ≠ C := fun e => by rw [e, bC] at bA; simp at bA
    have hAX : A ≠ w.heap.size := fun e => by rw [e, bX] at bA; simp at bA
    have hCX : C ≠ w.heap.size := fun e => by rw [e, bX] at bC; simp at bC
    have cA2 : V.cell? ⟨A, 0, none⟩ = some (num (n : Nat)) := by rw [HN.out]; exact cell_at bA rfl
    have cC2 : V.cell? ⟨C, 0, none⟩ = some (q64 last) := cell_at bC rfl
    obtain ⟨x0, x1, x2, x3, x4⟩ := cells5 hbV
    have hgw := grownBy_trans HgW.out hg2V
    have HV := hide hV
    have HG := hide hgw
    have HA := hide bA
    have HC := hide bC
    have HX := hide bX
    have HR := hide hbV
    clear cB cA hg2 hV hgV hbV hg2V bA bC bX hgw HP HBx HOA HOC HgW Hw
    have hn0 : (n = 0) ↔ k = 0 := by have := HN.out; omega
    have HOk : Hid (Ok b k ↔ E = 0 ∧ (n = 0 ∨ last < R.seq)) := by
      rw [Hid, Ok, ← HN.out, HRk.out.2.1, HRk.out.2.2, hn0]
      by_cases h0 : k = 0
      · simp [h0]
      · rw [hla h0]
    clear hla
    by_cases h0 : n = 0
    · have e0 : (n : Int) = 0 := by omega
      by_cases hE : E = 0
      · have e1 : (E != 0) = false := by simp [hE]
        have hok : Ok b k := HOk.out.2 ⟨hE, .inl h0⟩
        have hXl := lt_of_heap HX.out
        have hRl := lt_of_heap HR.out
        have hAR : w2.heap.size ≠ A := fun e => by have := HA.out; rw [← e, HR.out] at this; simp at this
        have hCR : w2.heap.size ≠ C := fun e => by have := HC.out; rw [← e, HR.out] at this; simp at this
        obtain ⟨V2, hV2⟩ : ∃ V2, V2 = ((V.setCell ⟨A, 0, none⟩ (.int .i64 37)).setCell ⟨C, 0, none⟩ (.int .u64 R.seq)).drew := ⟨_, rfl⟩
        have a1 : V2.heap[A]? = some (.cells #[.int .i64 37] 3) := by
          rw [hV2]; rw [show ∀ W : World, W.drew.heap = W.heap from fun _ => rfl, setCell_else hAC]; exact setCell_row (i := 0) (L := [num (37 * k : Nat)]) (w := V) HA.out _
        have c1 : V2.heap[C]? = some (.cells #[q64 R.seq] 22) := by
          rw [hV2]; rw [show ∀ W : World, W.drew.heap = W.heap from fun _ => rfl]; exact setCell_row (i := 0) (L := [q64 last]) (w := V.setCell ⟨A, 0, none⟩ (.int .i64 37)) (by rw [setCell_else (Ne.symm hAC)]; exact HC.out) _
        have r1 : V2.heap[w2.heap.size]? = some (recL R) := by rw [hV2]; rw [show ∀ W : World, W.drew.heap = W.heap from fun _ => rfl, setCell_else hCR, setCell_else hAR]; exact HR.out
        have b1 : V2.heap[w.heap.size]? = some (recL noR) := by rw [hV2]; rw [show ∀ W : World, W.drew.heap = W.heap from fun _ => rfl, setCell_else (Ne.symm hCX), setCell_else (Ne.symm hAX)]; exact HX.out
        have s1 : Stp (fun g => g = A ∨ g = C) w V2 := by rw [hV2]; exact (((Stp.of_grown HG.out).set (.inl (.inl rfl)) _).set (.inl (.inr rfl)) _).drew
        obtain ⟨z0, z1, z2, z3, z4⟩ := cells5 r1
        have d1 : V.cell? ⟨A, 0, none⟩ = some (num (n : Nat)) := cA2
        have d2 : V.cell? ⟨w2.heap.size, 1, none⟩ = some (q64 R.seq) := x1
        have d3 : V.cell? ⟨C, 0, none⟩ = some (q64 last) := cC2
        have g1 : V.frozen? ⟨A, 0, none⟩ = false := free_at (w := V) HA.out
        have g2 : V.frozen? ⟨C, 0, none⟩ = false := free_at (w := V) HC.out
        have HV2 := hide hV2
        have HA1 := hide a1
        have HC1 := hide c1
        have HB1 := hide b1
        have HS1 := hide s1
        have dA : (V.setCell ⟨A, 0, none⟩ (.int .i64 37)).cell? ⟨w2.heap.size, 1, none⟩ = some (q64 R.seq) := by rw [cell_of_block (setCell_else hAR _)]; exact d2
        have gA : (V.setCell ⟨A, 0, none⟩ (.int .i64 37)).frozen? ⟨C, 0, none⟩ = false := free_at (by rw [setCell_else (Ne.symm hAC)]; exact HC.out)
        have cC : (V.setCell ⟨A, 0, none⟩ (.int .i64 37)).cell? ⟨C, 0, none⟩ = some (q64 last) := by rw [cell_of_block (setCell_else (Ne.symm hAC) _)]; exact d3
        clear hV2 a1 c1 b1 s1 r1 hXl hRl hAR hCR HA HC HX HR HG HOk
        go_wp2_with (rw [← HV.out])
        go_region
        rw [← HV2.out]
        go_wp2_with (refine wpList_store_recS rfl (.tmp 3) (.tmp 34) rfl w.heap.size noR R rfl rfl HB1.out ?_; intro w5 h5 s5)
        obtain ⟨y0, y1, y2, y3, y4⟩ := cells5 h5
        refine bodyPost_ret (v := .tuple #[recV R, .bool true]) (by simp [results, Tryd.f32, go_sem, y0, y1, y2, y3, y4]) rfl ⟨HS1.out.new s5 (Nat.le_refl _), .inl ⟨hok, by rw [HRk.out.2.2], ?_, ?_⟩⟩
        · rw [s5.same A (lt_of_heap HA1.out) hAX, HA1.out]
          have := HN.out
          simp; omega
        · rw [s5.same C (lt_of_heap HC1.out) hCX, HC1.out, HRk.out.2.2]
      · have e1 : (E != 0) = true := by simp [hE]
        have hnok : ¬ Ok b k := fun h => hE (HOk.out.1 h).1
        clear HA HC hAC hAX hCX HRk HOk
        go_wp2_with (first | (rw [← HV.out]) | (refine wpList_store_rec rfl (.tmp 3) (.tmp 29) rfl w.heap.size noR noR rfl rfl HX.out ?_; intro w5 h5 hg5 _))
        have hg6 := hg5 w HG.out (Nat.le_refl _)
        obtain ⟨y0, y1, y2, y3, y4⟩ := cells5 h5
        exact bodyPost_ret (v := .tuple #[recV noR, .bool false]) (by simp [results, Tryd.f32, go_sem, y0, y1, y2, y3, y4]) rfl ⟨Stp.of_grown hg6, .inr ⟨hnok, rfl⟩⟩
    · have e0 : ¬ (n : Int) = 0 := by omega
      have e00 : ((n : Int) == 0) = false := by simp [h0]
      by_cases hE : E = 0
      · have e1 : (E != 0) = false := by simp [hE]
        by_cases hs : last < R.seq
        · have e2 : (last : Int) < (R.seq : Int) := by omega
          have hok : Ok b k := HOk.out.2 ⟨hE, .inr hs⟩
          have hXl := lt_of_heap HX.out
          have hRl := lt_of_heap HR.out
          have hAR : w2.heap.size ≠ A := fun e => by have := HA.out; rw [← e, HR.out] at this; simp at this
          have hCR : w2.heap.size ≠ C := fun e => by have := HC.out; rw [← e, HR.out] at this; simp at this
          obtain ⟨V2, hV2⟩ : ∃ V2, V2 = ((V.setCell ⟨A, 0, none⟩ (.int .i64 ((n : Int) + 37))).setCell ⟨C, 0, none⟩ (.int .u64 R.seq)).drew := ⟨_, rfl⟩
          have a1 : V2.heap[A]? = some (.cells #[.int .i64 ((n : Int) + 37)] 3) := by
            rw [hV2]; rw [show ∀ W : World, W.drew.heap = W.heap from fun _ => rfl, setCell_else hAC]; exact setCell_row (i := 0) (L := [num (37 * k : Nat)]) (w := V) HA.out _
          have c1 : V2.heap[C]? = some (.cells #[q64 R.seq] 22) := by
            rw [hV2]; rw [show ∀ W : World, W.drew.heap = W.heap from fun _ => rfl]; exact setCell_row (i := 0) (L := [q64 last]) (w := V.setCell ⟨A, 0, none⟩ (.int .i64 ((n : Int) + 37))) (by rw [setCell_else (Ne.symm hAC)]; exact HC.out) _
          have r1 : V2.heap[w2.heap.size]? = some (recL R) := by rw [hV2]; rw [show ∀ W : World, W.drew.heap = W.heap from fun _ => rfl, setCell_else hCR, setCell_else hAR]; exact HR.out
          have b1 : V2.heap[w.heap.size]? = some (recL noR) := by rw [hV2]; rw [show ∀ W : World, W.drew.heap = W.heap from fun _ => rfl, setCell_else (Ne.symm hCX), setCell_else (Ne.symm hAX)]; exact HX.out
          have s1 : Stp (fun g => g = A ∨ g = C) w V2 := by rw [hV2]; exact (((Stp.of_grown HG.out).set (.inl (.inl rfl)) _).set (.inl (.inr rfl)) _).drew
          obtain ⟨z0, z1, z2, z3, z4⟩ := cells5 r1
          have d1 : V.cell? ⟨A, 0, none⟩ = some (num (n : Nat)) := cA2
          have d2 : V.cell? ⟨w2.heap.size, 1, none⟩ = some (q64 R.seq) := x1
          have d3 : V.cell? ⟨C, 0, none⟩ = some (q64 last) := cC2
          have g1 : V.frozen? ⟨A, 0, none⟩ = false := free_at (w := V) HA.out
          have g2 : V.frozen? ⟨C, 0, none⟩ = false := free_at (w := V) HC.out
          have HV2 := hide hV2
          have HA1 := hide a1
          have HC1 := hide c1
          have HB1 := hide b1
          have HS1 := hide s1
          have dA : (V.setCell ⟨A, 0, none⟩ (.int .i64 ((n : Int) + 37))).cell? ⟨w2.heap.size, 1, none⟩ = some (q64 R.seq) := by rw [cell_of_block (setCell_else hAR _)]; exact d2
          have gA : (V.setCell ⟨A, 0, none⟩ (.int .i64 ((n : Int) + 37))).frozen? ⟨C, 0, none⟩ = false := free_at (by rw [setCell_else (Ne.symm hAC)]; exact HC.out)
          have cC : (V.setCell ⟨A, 0, none⟩ (.int .i64 ((n : Int) + 37))).cell? ⟨C, 0, none⟩ = some (q64 last) := by rw [cell_of_block (setCell_else (Ne.symm hAC) _)]; exact d3
          clear hV2 a1 c1 b1 s1 r1 hXl hRl hAR hCR HA HC HX HR HG HOk
          go_wp2_with (rw [← HV.out])
          go_region
          rw [← HV2.out]
          go_wp2_with (refine wpList_store_recS rfl (.tmp 3) (.tmp 34) rfl w.heap.size noR R rfl rfl HB1.out ?_; intro w5 h5 s5)
          obtain ⟨y0, y1, y2, y3, y4⟩ := cells5 h5
          refine bodyPost_ret (v := .tuple #[recV R, .bool true]) (by simp [results, Tryd.f32, go_sem, y0, y1, y2, y3, y4]) rfl ⟨HS1.out.new s5 (Nat.le_refl _), .inl ⟨hok, by rw [HRk.out.2.2], ?_, ?_⟩⟩
          · rw [s5.same A (lt_of_heap HA1.out) hAX, HA1.out]
            have := HN.out
            simp; omega
          · rw [s5.same C (lt_of_heap HC1.out) hCX, HC1.out, HRk.out.2.2]
        · have e2 : ¬ (last : Int) < (R.seq : Int) := by omega
          have hnok : ¬ Ok b k := fun h => by rcases (HOk.out.1 h).2 with h | h; exact h0 h; exact hs h
          clear HA HC hAC hAX hCX HRk HOk
          go_wp2_with (first | (rw [← HV.out]) | (refine wpList_store_rec rfl (.tmp 3) (.tmp 29) rfl w.heap.size noR noR rfl rfl HX.out ?_; intro w5 h5 hg5 _))
          have hg6 := hg5 w HG.out (Nat.le_refl _)
          obtain ⟨y0, y1, y2, y3, y4⟩ := cells5 h5
          exact bodyPost_ret (v := .tuple #[recV noR, .bool false]) (by simp [results, Tryd.f32, go_sem, y0, y1, y2, y3, y4]) rfl ⟨Stp.of_grown hg6, .inr ⟨hnok, rfl⟩⟩
      · have e1 : (E != 0) = true := by simp [hE]
        have hnok : ¬ Ok b k := fun h => hE (HOk.out.1 h).1
        clear HA HC hAC hAX hCX HRk HOk
        go_wp2_with (first | (rw [← HV.out]) | (refine wpList_store_rec rfl (.tmp 3) (.tmp 29) rfl w.heap.size noR noR rfl rfl HX.out ?_; intro w5 h5 hg5 _))
        have hg6 := hg5 w HG.out (Nat.le_refl _)
        obtain ⟨y0, y1, y2, y3, y4⟩ := cells5 h5
        exact bodyPost_ret (v := .tuple #[recV noR, .bool false]) (by simp [results, Tryd.f32, go_sem, y0, y1, y2, y3, y4]) rfl ⟨Stp.of_grown hg6, .inr ⟨hnok, rfl⟩⟩
  · rw [if_neg hcn] at hP
    have HP := hide hP
    clear hP hbx oB oA oC hgW hW hn hd hx hB hA hC hG hc
    go_enter Tryd.func32, Tryd.ntmps32
    go_wp2_with (rw [← Hw.out])
    refine HP.out.mono fun e w2 hp2 => ?_
    rw [ParsePost, HRk.out.1, HRk.out.2.1] at hp2
    obtain ⟨rfl, hg2⟩ := hp2
    obtain ⟨V, hV⟩ : ∃ V, V = w2.alloc (.cells #[.int .i64 R.kind, .int .u64 R.seq, .int .u64 R.a, .int .u64 R.b, .int .u64 R.c] 24) := ⟨_, rfl⟩
    have hgV : w2.grownBy V none := by rw [hV]; exact World.grownBy_alloc w2 _ none
    have hbV : V.heap[w2.heap.size]? = some (recL R) := by rw [hV]; exact heap_alloc_new w2 _
    have hg2V := grownBy_trans hg2 hgV
    have bA := obj_more HOA.out hg2V
    have bC := obj_more HOC.out hg2V
    have bX := obj_more HBx.out hg2V
    have hAC : A ≠ C := fun e => by rw [e, bC] at bA; simp at bA
    have hAX : A ≠ w.heap.size := fun e => by rw [e, bX] at bA; simp at bA
    have hCX : C ≠ w.heap.size := fun e => by rw [e, bX] at bC; simp at bC
    have cA2 : V.cell? ⟨A, 0, none⟩ = some (num (n : Nat)) := by rw [HN.out]; exact cell_at bA rfl
    have cC2 : V.cell? ⟨C, 0, none⟩ = some (q64 last) := cell_at bC rfl
    obtain ⟨x0, x1, x2, x3, x4⟩ := cells5 hbV
    have hgw := grownBy_trans HgW.out hg2V
    have HV := hide hV
    have HG := hide hgw
    have HA := hide bA
    have HC := hide bC
    have HX := hide bX
    have HR := hide hbV
    clear cB cA hg2 hV hgV hbV hg2V bA bC bX hgw HP HBx HOA HOC HgW Hw
    have hn0 : (n = 0) ↔ k = 0 := by have := HN.out; omega
    have HOk : Hid (Ok b k ↔ E = 0 ∧ (n = 0 ∨ last < R.seq)) := by
      rw [Hid, Ok, ← HN.out, HRk.out.2.1, HRk.out.2.2, hn0]
      by_cases h0 : k = 0
      · simp [h0]
      · rw [hla h0]
    clear hla
    by_cases h0 : n = 0
    · have e0 : (n : Int) = 0 := by omega
      by_cases hE : E = 0
      · have e1 : (E != 0) = false := by simp [hE]
        have hok : Ok b k := HOk.out.2 ⟨hE, .inl h0⟩
        have hXl := lt_of_heap HX.out
        have hRl := lt_of_heap HR.out
        have hAR : w2.heap.size ≠ A := fun e => by have := HA.out; rw [← e, HR.out] at this; simp at this
        have hCR : w2.heap.size ≠ C := fun e => by have := HC.out; rw [← e, HR.out] at this; simp at this
        obtain ⟨V2, hV2⟩ : ∃ V2, V2 = ((V.setCell ⟨A, 0, none⟩ (.int .i64 37)).setCell ⟨C, 0, none⟩ (.int .u64 R.seq)).drew := ⟨_, rfl⟩
        have a1 : V2.heap[A]? = some (.cells #[.int .i64 37] 3) := by
          rw [hV2]; rw [show ∀ W : World, W.drew.heap = W.heap from fun _ => rfl, setCell_else hAC]; exact setCell_row (i := 0) (L := [num (37 * k : Nat)]) (w := V) HA.out _
        have c1 : V2.heap[C]? = some (.cells #[q64 R.seq] 22) := by
          rw [hV2]; rw [show ∀ W : World, W.drew.heap = W.heap from fun _ => rfl]; exact setCell_row (i := 0) (L := [q64 last]) (w := V.setCell ⟨A, 0, none⟩ (.int .i64 37)) (by rw [setCell_else (Ne.symm hAC)]; exact HC.out) _
        have r1 : V2.heap[w2.heap.size]? = some (recL R) := by rw [hV2]; rw [show ∀ W : World, W.drew.heap = W.heap from fun _ => rfl, setCell_else hCR, setCell_else hAR]; exact HR.out
        have b1 : V2.heap[w.heap.size]? = some (recL noR) := by rw [hV2]; rw [show ∀ W : World, W.drew.heap = W.heap from fun _ => rfl, setCell_else (Ne.symm hCX), setCell_else (Ne.symm hAX)]; exact HX.out
        have s1 : Stp (fun g => g = A ∨ g = C) w V2 := by rw [hV2]; exact (((Stp.of_grown HG.out).set (.inl (.inl rfl)) _).set (.inl (.inr rfl)) _).drew
        obtain ⟨z0, z1, z2, z3, z4⟩ := cells5 r1
        have d1 : V.cell? ⟨A, 0, none⟩ = some (num (n : Nat)) := cA2
        have d2 : V.cell? ⟨w2.heap.size, 1, none⟩ = some (q64 R.seq) := x1
        have d3 : V.cell? ⟨C, 0, none⟩ = some (q64 last) := cC2
        have g1 : V.frozen? ⟨A, 0, none⟩ = false := free_at (w := V) HA.out
        have g2 : V.frozen? ⟨C, 0, none⟩ = false := free_at (w := V) HC.out
        have HV2 := hide hV2
        have HA1 := hide a1
        have HC1 := hide c1
        have HB1 := hide b1
        have HS1 := hide s1
        have dA : (V.setCell ⟨A, 0, none⟩ (.int .i64 37)).cell? ⟨w2.heap.size, 1, none⟩ = some (q64 R.seq) := by rw [cell_of_block (setCell_else hAR _)]; exact d2
        have gA : (V.setCell ⟨A, 0, none⟩ (.int .i64 37)).frozen? ⟨C, 0, none⟩ = false := free_at (by rw [setCell_else (Ne.symm hAC)]; exact HC.out)
        have cC : (V.setCell ⟨A, 0, none⟩ (.int .i64 37)).cell? ⟨C, 0, none⟩ = some (q64 last) := by rw [cell_of_block (setCell_else (Ne.symm hAC) _)]; exact d3
        clear hV2 a1 c1 b1 s1 r1 hXl hRl hAR hCR HA HC HX HR HG HOk
        go_wp2_with (rw [← HV.out])
        go_region
        rw [← HV2.out]
        go_wp2_with (refine wpList_store_recS rfl (.tmp 3) (.tmp 34) rfl w.heap.size noR R rfl rfl HB1.out ?_; intro w5 h5 s5)
        obtain ⟨y0, y1, y2, y3, y4⟩ := cells5 h5
        refine bodyPost_ret (v := .tuple #[recV R, .bool true]) (by simp [results, Tryd.f32, go_sem, y0, y1, y2, y3, y4]) rfl ⟨HS1.out.new s5 (Nat.le_refl _), .inl ⟨hok, by rw [HRk.out.2.2], ?_, ?_⟩⟩
        · rw [s5.same A (lt_of_heap HA1.out) hAX, HA1.out]
          have := HN.out
          simp; omega
        · rw [s5.same C (lt_of_heap HC1.out) hCX, HC1.out, HRk.out.2.2]
      · have e1 : (E != 0) = true := by simp [hE]
        have hnok : ¬ Ok b k := fun h => hE (HOk.out.1 h).1
        clear HA HC hAC hAX hCX HRk HOk
        go_wp2_with (first | (rw [← HV.out]) | (refine wpList_store_rec rfl (.tmp 3) (.tmp 29) rfl w.heap.size noR noR rfl rfl HX.out ?_; intro w5 h5 hg5 _))
        have hg6 := hg5 w HG.out (Nat.le_refl _)
        obtain ⟨y0, y1, y2, y3, y4⟩ := cells5 h5
        exact bodyPost_ret (v := .tuple #[recV noR, .bool false]) (by simp [results, Tryd.f32, go_sem, y0, y1, y2, y3, y4]) rfl ⟨Stp.of_grown hg6, .inr ⟨hnok, rfl⟩⟩
    · have e0 : ¬ (n : Int) = 0 := by omega
      have e00 : ((n : Int) == 0) = false := by simp [h0]
      by_cases hE : E = 0
      · have e1 : (E != 0) = false := by simp [hE]
        by_cases hs : last < R.seq
        · have e2 : (last : Int) < (R.seq : Int) := by omega
          have hok : Ok b k := HOk.out.2 ⟨hE, .inr hs⟩
          have hXl := lt_of_heap HX.out
          have hRl := lt_of_heap HR.out
          have hAR : w2.heap.size ≠ A := fun e => by have := HA.out; rw [← e, HR.out] at this; simp at this
          have hCR : w2.heap.size ≠ C := fun e => by have := HC.out; rw [← e, HR.out] at this; simp at this
          obtain ⟨V2, hV2⟩ : ∃ V2, V2 = ((V.setCell ⟨A, 0, none⟩ (.int .i64 ((n : Int) + 37))).setCell ⟨C, 0, none⟩ (.int .u64 R.seq)).drew := ⟨_, rfl⟩
          have a1 : V2.heap[A]? = some (.cells #[.int .i64 ((n : Int) + 37)] 3) := by
            rw [hV2]; rw [show ∀ W : World, W.drew.heap = W.heap from fun _ => rfl, setCell_else hAC]; exact setCell_row (i := 0) (L := [num (37 * k : Nat)]) (w := V) HA.out _
          have c1 : V2.heap[C]? = some (.cells #[q64 R.seq] 22) := by
            rw [hV2]; rw [show ∀ W : World, W.drew.heap = W.heap from fun _ => rfl]; exact setCell_row (i := 0) (L := [q64 last]) (w := V.setCell ⟨A, 0, none⟩ (.int .i64 ((n : Int) + 37))) (by rw [setCell_else (Ne.symm hAC)]; exact HC.out) _
          have r1 : V2.heap[w2.heap.size]? = some (recL R) := by rw [hV2]; rw [show ∀ W : World, W.drew.heap = W.heap from fun _ => rfl, setCell_else hCR, setCell_else hAR]; exact HR.out
          have b1 : V2.heap[w.heap.size]? = some (recL noR) := by rw [hV2]; rw [show ∀ W : World, W.drew.heap = W.heap from fun _ => rfl, setCell_else (Ne.symm hCX), setCell_else (Ne.symm hAX)]; exact HX.out
          have s1 : Stp (fun g => g = A ∨ g = C) w V2 := by rw [hV2]; exact (((Stp.of_grown HG.out).set (.inl (.inl rfl)) _).set (.inl (.inr rfl)) _).drew
          obtain ⟨z0, z1, z2, z3, z4⟩ := cells5 r1
          have d1 : V.cell? ⟨A, 0, none⟩ = some (num (n : Nat)) := cA2
          have d2 : V.cell? ⟨w2.heap.size, 1, none⟩ = some (q64 R.seq) := x1
          have d3 : V.cell? ⟨C, 0, none⟩ = some (q64 last) := cC2
          have g1 : V.frozen? ⟨A, 0, none⟩ = false := free_at (w := V) HA.out
          have g2 : V.frozen? ⟨C, 0, none⟩ = false := free_at (w := V) HC.out
          have HV2 := hide hV2
          have HA1 := hide a1
          have HC1 := hide c1
          have HB1 := hide b1
          have HS1 := hide s1
          have dA : (V.setCell ⟨A, 0, none⟩ (.int .i64 ((n : Int) + 37))).cell? ⟨w2.heap.size, 1, none⟩ = some (q64 R.seq) := by rw [cell_of_block (setCell_else hAR _)]; exact d2
          have gA : (V.setCell ⟨A, 0, none⟩ (.int .i64 ((n : Int) + 37))).frozen? ⟨C, 0, none⟩ = false := free_at (by rw [setCell_else (Ne.symm hAC)]; exact HC.out)
          have cC : (V.setCell ⟨A, 0, none⟩ (.int .i64 ((n : Int) + 37))).cell? ⟨C, 0, none⟩ = some (q64 last) := by rw [cell_of_block (setCell_else (Ne.symm hAC) _)]; exact d3
          clear hV2 a1 c1 b1 s1 r1 hXl hRl hAR hCR HA HC HX HR HG HOk
          go_wp2_with (rw [← HV.out])
          go_region
          rw [← HV2.out]
          go_wp2_with (refine wpList_store_recS rfl (.tmp 3) (.tmp 34) rfl w.heap.size noR R rfl rfl HB1.out ?_; intro w5 h5 s5)
          obtain ⟨y0, y1, y2, y3, y4⟩ := cells5 h5
          refine bodyPost_ret (v := .tuple #[recV R, .bool true]) (by simp [results, Tryd.f32, go_sem, y0, y1, y2, y3, y4]) rfl ⟨HS1.out.new s5 (Nat.le_refl _), .inl ⟨hok, by rw [HRk.out.2.2], ?_, ?_⟩⟩
          · rw [s5.same A (lt_of_heap HA1.out) hAX, HA1.out]
            have := HN.out
            simp; omega
          · rw [s5.same C (lt_of_heap HC1.out) hCX, HC1.out, HRk.out.2.2]
        · have e2 : ¬ (last : Int) < (R.seq : Int) := by omega
          have hnok : ¬ Ok b k := fun h => by rcases (HOk.out.1 h).2 with h | h; exact h0 h; exact hs h
          clear HA HC hAC hAX hCX HRk HOk
          go_wp2_with (first | (rw [← HV.out]) | (refine wpList_store_rec rfl (.tmp 3) (.tmp 29) rfl w.heap.size noR noR rfl rfl HX.out ?_; intro w5 h5 hg5 _))
          have hg6 := hg5 w HG.out (Nat.le_refl _)
          obtain ⟨y0, y1, y2, y3, y4⟩ := cells5 h5
          exact bodyPost_ret (v := .tuple #[recV noR, .bool false]) (by simp [results, Tryd.f32, go_sem, y0, y1, y2, y3, y4]) rfl ⟨Stp.of_grown hg6, .inr ⟨hnok, rfl⟩⟩
      · have e1 : (E != 0) = true := by simp [hE]
        have hnok : ¬ Ok b k := fun h => hE (HOk.out.1 h).1
        clear HA HC hAC hAX hCX HRk HOk
        go_wp2_with (first | (rw [← HV.out]) | (refine wpList_store_rec rfl (.tmp 3) (.tmp 29) rfl w.heap.size noR noR rfl rfl HX.out ?_; intro w5 h5 hg5 _))
        have hg6 := hg5 w HG.out (Nat.le_refl _)
        obtain ⟨y0, y1, y2, y3, y4⟩ := cells5 h5
        exact bodyPost_ret (v := .tuple #[recV noR, .bool false]) (by simp [results, Tryd.f32, go_sem, y0, y1, y2, y3, y4]) rfl ⟨Stp.of_grown hg6, .inr ⟨hnok, rfl⟩⟩
end Rc
end Go.Proofs.YtfmkmfjmhpgglaaDoor
