/- The walk of NandOrder. -/
import Derived.Test.YtojamicakkecbaaNw
namespace Go.Proofs.Ytojamicakkecbaa
open Go.ChangeShapes Go.WideShapes Go.ChangeAt Go.RowKit Go.Maps
namespace Nd
structure Ord (A : St) (n next ops k : Nat) : Prop where
  fine : Fine A
  d : A.D = 1
  b : A.B = 1
  p : A.P = n
  y : A.Y = 1
  nx : (A.blk 0 0).next = next
  num : A.num = ops
  le : next ≤ n
  bd : Bd A (3 * k)
theorem Ord.erase {A : St} {n next ops k : Nat} (h : Ord A n next ops k) (hk : k ≤ 100) : (A.doErase 0 0).2 = 0 ∧ Ord (A.doErase 0 0).1 n 0 (ops + 1) (k + 1) := by
  have hb := h.bd.erase 0 0
  have e := h.fine.erase h.bd (by omega) 0 0
  refine ⟨by rw [e], ⟨by rw [e]; exact h.fine.eras 0 0, by rw [e]; exact h.d, by rw [e]; exact h.b, by rw [e]; exact h.p, by rw [e]; exact h.y, by rw [e, upB_same]; rfl, ?_, by omega, hb.mono (by omega)⟩⟩
  rw [e]
  show (A.tick 2).num = _
  rw [tick_num A 2 (by decide), h.num]
  omega
theorem Ord.prog {A : St} {n next ops k : Nat} (h : Ord A n next ops k) (hk : k ≤ 100) (hn : next < n) (bs : List Nat) : (A.doProgram 0 0 next bs).2 = 0 ∧ Ord (A.doProgram 0 0 next bs).1 n (next + 1) (ops + 1) (k + 1) := by
  have hb := h.bd.program (d := 0) (b := 0) (p := next) (bs := bs) (by rw [h.nx, h.p]; omega)
  have e := h.fine.program h.bd (by omega) 0 0 next bs
  refine ⟨by rw [e], ⟨by rw [e]; exact (h.fine.tick 1).prog _ _ _ _ _ _, by rw [e]; exact h.d, by rw [e]; exact h.b, by rw [e]; exact h.p, by rw [e]; exact h.y, ?_, ?_, by omega, hb.mono (by omega)⟩⟩
  · rw [e]
    rw [prog_next]
    show (A.blk 0 0).next + 1 = _
    rw [h.nx]
    omega
  · rw [e]
    show (A.tick 1).num = _
    rw [tick_num A 1 (by decide), h.num]
    omega
theorem src_one {w : World} {g : Nat} {x : Nat} (h : w.heap[g]? = some (.cells #[.int .u8 (x : Int)] 5)) (hx : x ≤ 255) : Src w g 0 [x] :=
  ⟨nth_mem_le fun z hz => by simp at hz; omega, fun i hi => by
    have : i = 0 := by simpa using hi
    subst this
    simp [World.cell?, h, nth]⟩
set_option maxHeartbeats 6400000 in
set_option maxRecDepth 4000 in
theorem law_NandOrder (pg : Int) (hpg : I64 pg) (ao : Option Addr) (len cap : Nat) (xs : List Int) {w : World} (hx : Arg w ao len xs) (hl : len ≤ 9223372036854775807) :
    Calls Try.prog 8 #[num pg, .slice ao len cap] w fun e w' => e = .returned (.bool true) ∧ w.grownBy w' none := by
  have hnn := hnot
  obtain ⟨n, hn⟩ : ∃ n, n = 1 + absS pg % 8 := ⟨_, rfl⟩
  have n1 : 1 ≤ n := by omega
  have n2 : n ≤ 8 := by omega
  have HA : Hid (∀ w, Calls Try.prog 14 #[num pg] w fun e w' => e = .returned (num (absS pg)) ∧ w' = w) := fun w => abs_ok pg hpg w
  have ha1 := absS_le hpg
  have HNn : Hid (1 + (absS pg : Int) % 8 = (n : Int)) := by rw [Hid, hn]; omega
  have HNew : Hid (∀ w, Calls Try.prog 10 #[shapeV 1 1 n 1, .slice none 0 0] w (NewPost w (St.new 1 1 n 1))) := fun w => by
    have := new_ok (w := w) 1 1 n 1 (dims_new (by decide) (by decide) (by decide) (by decide) n1 (by omega) (by decide) (by decide)) (by omega) (ao := none) (cap := 0) (fs := []) (faults_nil w none) (fun f hf => by cases hf) (by decide) (fun f hf => by cases hf)
    exact this
  have hle : (len : Int) ≤ 9223372036854775807 := by omega
  have ha2 : (absS pg : Int) ≤ 9223372036854775807 := by omega
  clear hn hl ha1
  go_enter Try.func8, Try.ntmps8
  go_wp2_with fail
  refine (awake_ok w).mono ?_
  rintro e w1 ⟨rfl, hg1⟩
  go_wp2_with fail
  refine (HA.out _).mono ?_
  rintro e w1 ⟨rfl, rfl⟩
  go_wp2_with (rw [HNn.out])
  refine (HNew.out _).mono ?_
  rintro e w2 ⟨M, lab, rfl, h2, st2⟩
  have st02 := Stp.from hg1 st2
  have hO : Ord (St.new 1 1 n 1) n 0 0 0 := ⟨Fine.new 1 1 n 1, rfl, rfl, rfl, rfl, rfl, rfl, by omega, Bd.new 1 1 n 1⟩
  clear HA HNew HNn st2 hg1
  go_wp2_with fail
  go_loopw [9, 10, 11] (fun nx op i wr => ∃ k next ops : Nat, ∃ A lab', k ≤ 100 ∧ nx = num next ∧ op = num ops ∧ i = num k ∧ ops ≤ k ∧ Ord A n next ops k ∧ Arr wr M A lab' ∧ Stp (fun _ => none) lab' w wr) (fun _ _ i _ => 100 - (intOf i).toNat)
  case atStart => exact ⟨0, 0, 0, _, lab, by omega, rfl, rfl, rfl, by omega, hO, h2, st02⟩
  case round =>
    clear hO h2 st02
    obtain ⟨k, next, ops, A, lab', hk, rfl, rfl, rfl, hok, hO, hA, st⟩ := hrel
    by_cases hlt : k < len ∧ k < 100
    · obtain ⟨hl1, hl2⟩ := hlt
      have q1 : (k : Int) < (len : Int) := by omega
      have q2 : (k : Int) < 100 := by omega
      have hxr := hx.more st.grownBy
      obtain ⟨g, off, rfl, hc⟩ := hxr.2.2.resolve_left (fun e => by have := hxr.1; rw [e] at this; simp at this; omega)
      have hck := hc k (by rw [hxr.1]; exact hl1)
      have hxi : I64 (nthI xs k) := hxr.2.1 _ (by
        have : k < xs.length := by rw [hxr.1]; exact hl1
        simp [nthI, this])
      generalize nthI xs k = x at hck hxi
      have HX : Hid (∀ w, Calls Try.prog 14 #[num x] w fun e w' => e = .returned (num (absS x)) ∧ w' = w) := fun w => abs_ok x hxi w
      have hxa := absS_le hxi
      have hxa' : (absS x : Int) ≤ 9223372036854775807 := by omega
      obtain ⟨p, hp⟩ : ∃ p, p = absS x % (n + 1) := ⟨_, rfl⟩
      have HP : Hid ((absS x : Int) % ((n : Int) + 1) = (p : Int)) := by rw [Hid, hp]; simp
      have hpn : p ≤ n := by rw [hp]; exact Nat.le_of_lt_succ (Nat.mod_lt _ (by omega))
      have n3 : (n : Int) ≤ 8 := by omega
      have n4 : (1 : Int) ≤ (n : Int) := by omega
      have hon := hO.fine.on
      have hD1 := hO.d
      have hB1 := hO.b
      clear hp hc hxr hxi hxa
      by_cases hpe : p = n
      · obtain ⟨e1, hO'⟩ := hO.erase (by omega)
        have hE := Erase_done hA hO.bd (by omega) 0 0 hon (by rw [hD1]; decide) (by rw [hB1]; decide)
        have HE : Hid (Calls Try.prog 15 #[ptr M.a 0, num 0, num 0] wr (OpPost wr M lab' (A.doErase 0 0))) := hE
        have HE0 : Hid _ := e1
        have b1 : ((p : Int) == (n : Int)) = true := by simp; omega
        clear hpe hE e1 hO hon hD1 hB1
        go_wp2_with fail
        refine (HX.out _).mono ?_
        rintro e w3 ⟨rfl, rfl⟩
        go_wp2_with (rw [HP.out])
        refine HE.out.mono ?_
        rintro e w4 ⟨lab4, rfl, h4, st4⟩
        rw [HE0.out]
        have st04 := st.trans st4
        clear st4 st hA HE HX
        go_wp2_with fail
        exact ⟨⟨k + 1, 0, ops + 1, _, lab4, by omega, rfl, by go_num, by go_num, by omega, hO', h4, st04⟩, by simp [intOf]; omega⟩
      · have b1 : ((p : Int) == (n : Int)) = false := by simp; omega
        obtain ⟨V, hV⟩ : ∃ V, V = wr.alloc (.cells #[.int .u8 (k : Int)] 5) := ⟨_, rfl⟩
        have hrV : V.heap[wr.heap.size]? = some (.cells #[.int .u8 (k : Int)] 5) := by rw [hV]; exact heap_alloc_new wr _
        have hAV : Arr V M A lab' := by rw [hV]; exact hA.alloc _
        have sV : Stp (fun _ => none) lab' w V := by rw [hV]; exact st.alloc _
        have HV : Hid _ := hV
        have hY1 := hO.y
        have hP1 := hO.p
        have hnl := hO.le
        by_cases hpx : p = next
        · subst hpx
          have b2 : ((p : Int) == (p : Int)) = true := by simp
          obtain ⟨e1, hO'⟩ := hO.prog (by omega) (by omega) [k]
          have hE := Program_done hAV hO.bd (by omega) 0 0 p wr.heap.size 0 1 hon (by rw [hD1]; decide) (by rw [hB1]; decide) (by omega) hO.nx (bs := [k]) (src_one hrV (by omega)) hY1.symm (by omega) (hA.fresh (Nat.le_refl _))
          rw [hY1] at hE
          have HE : Hid (Calls Try.prog 17 #[ptr M.a 0, num 0, num 0, num p, .slice (some ⟨wr.heap.size, 0, none⟩) 1 1] V (OpPost V M lab' (A.doProgram 0 0 p [k]))) := hE
          have HE0 : Hid _ := e1
          clear hE e1 hO hon hD1 hB1 hY1 hP1 hAV hrV hV hpe
          go_wp2_with fail
          refine (HX.out _).mono ?_
          rintro e w3 ⟨rfl, rfl⟩
          go_wp2_with (first | rw [HP.out] | rw [← HV.out])
          refine HE.out.mono ?_
          rintro e w4 ⟨lab4, rfl, h4, st4⟩
          rw [HE0.out]
          have st04 := sV.trans st4
          have HNx : Hid (Calls Try.prog 19 #[ptr M.a 0, num 0, num 0] w4 fun e w' => e = .returned (num ((p : Int) + 1)) ∧ w' = w4) := by
            have := next_ok h4 0 0 (by rw [hO'.d]; decide) (by rw [hO'.b]; decide)
            rw [hO'.nx] at this
            exact this
          have HOp : Hid (Calls Try.prog 20 #[ptr M.a 0] w4 fun e w' => e = .returned (num ((ops : Int) + 1)) ∧ w4.grownBy w' none) := by
            have := ops_ok h4 hO'.bd (by omega)
            rw [hO'.num] at this
            exact this
          have b3 : ((p : Int) + 1 != (p : Int) + 1) = false := by simp
          have b4 : ((ops : Int) + 1 != (ops : Int) + 1) = false := by simp
          clear st4 HE HX sV HV st
          go_wp2_with fail
          refine HNx.out.mono ?_
          rintro e w4 ⟨rfl, rfl⟩
          go_wp2_with fail
          refine HOp.out.mono ?_
          rintro e w5 ⟨rfl, hg5⟩
          have h5 := h4.more hg5
          have st05 := st04.grown hg5
          clear hg5 h4 st04 HOp HNx
          go_wp2_with fail
          exact ⟨⟨k + 1, p + 1, ops + 1, _, lab4, by omega, by go_num, by go_num, by go_num, by omega, hO', h5, st05⟩, by simp [intOf]; omega⟩
        · have b2 : ((p : Int) == (next : Int)) = false := by simp; omega
          have hE := Program_order hAV 0 0 p (some ⟨wr.heap.size, 0, none⟩) 1 hon (by rw [hD1]; decide) (by rw [hB1]; decide) (by omega) (by rw [hO.nx]; omega)
          rw [hY1] at hE
          have HE : Hid (Calls Try.prog 17 #[ptr M.a 0, num 0, num 0, num p, .slice (some ⟨wr.heap.size, 0, none⟩) 1 1] V fun e w' => e = .returned (num 42) ∧ w' = V) := hE
          have hO' : Ord A n next ops (k + 1) := ⟨hO.fine, hO.d, hO.b, hO.p, hO.y, hO.nx, hO.num, hO.le, hO.bd.mono (by omega)⟩
          have HNx : Hid (Calls Try.prog 19 #[ptr M.a 0, num 0, num 0] V fun e w' => e = .returned (num (next : Int)) ∧ w' = V) := by
            have := next_ok hAV 0 0 (by rw [hD1]; decide) (by rw [hB1]; decide)
            rw [hO.nx] at this
            exact this
          have HOp : Hid (Calls Try.prog 20 #[ptr M.a 0] V fun e w' => e = .returned (num (ops : Int)) ∧ V.grownBy w' none) := by
            have := ops_ok hAV hO.bd (by omega)
            rw [hO.num] at this
            exact this
          have b3 : ((next : Int) != (next : Int)) = false := by simp
          have b4 : ((ops : Int) != (ops : Int)) = false := by simp
          clear hE hO hon hD1 hB1 hY1 hP1 hrV hV hpe hpx
          go_wp2_with fail
          refine (HX.out _).mono ?_
          rintro e w3 ⟨rfl, rfl⟩
          go_wp2_with (first | rw [HP.out] | rw [← HV.out])
          refine HE.out.mono ?_
          rintro e V ⟨rfl, rfl⟩
          go_wp2_with fail
          refine HNx.out.mono ?_
          rintro e V ⟨rfl, rfl⟩
          go_wp2_with fail
          refine HOp.out.mono ?_
          rintro e w5 ⟨rfl, hg5⟩
          have h5 := hAV.more hg5
          have st05 := sV.grown hg5
          clear hg5 hAV sV HOp HNx HV HE HX
          go_wp2_with fail
          exact ⟨⟨k + 1, next, ops, _, lab', by omega, by go_num, by go_num, by go_num, by omega, hO', h5, st05⟩, by simp [intOf]; omega⟩
    · have hor : (decide ((k : Int) < (len : Int)) && decide ((k : Int) < 100)) = false := by
        by_cases h1 : k < len
        · have : ¬ k < 100 := fun h => hlt ⟨h1, h⟩
          simp; omega
        · simp; omega
      by_cases h1 : (k : Int) < (len : Int)
      · have h2 : ¬ (k : Int) < 100 := by omega
        go_wp2
        go_ret
        exact ⟨rfl, st.grownBy⟩
      · go_wp2
        go_ret
        exact ⟨rfl, st.grownBy⟩
end Nd
end Go.Proofs.Ytojamicakkecbaa
