/- The walk of NandCuts. -/
import Derived.Test.YtojamicakkecbaaNx
namespace Go.Proofs.Ytojamicakkecbaa
open Go.ChangeShapes Go.WideShapes Go.ChangeAt Go.RowKit Go.Maps
namespace Nd
/-- An array whose power goes off once. -/
structure CutR (A : St) (n r part i : Nat) (on : Bool) (next : Int) (pg : Option (List Nat)) : Prop where
  on : A.on = on
  cuts : ∀ k, A.cuts k = if k = (r : Int) then some (part : Int) else none
  dead : ∀ d, A.dead d = never
  noP : (A.blk 0 0).noP = never
  flips : (A.blk 0 0).flips = []
  d : A.D = 1
  b : A.B = 1
  p : A.P = 2
  y : A.Y = n
  num : A.num = i
  nx : (A.blk 0 0).next = next
  pg : (A.blk 0 0).pages 0 = pg
  bd : Bd A (3 * i)
def cutF (r part : Nat) : Flt := ⟨5, r, 0, 0, 0, 0, part, [], none, 0⟩
theorem cutF_may {n r part : Nat} (h1 : r < 5) (h2 : part < 1000) : FMay (St.new 1 1 2 n) (cutF r part) :=
  ⟨by show (1 : Int) ≤ 5; omega, by show (5 : Int) ≤ 6; omega, by show (0 : Int) ≤ r; omega, ⟨by show (-9223372036854775808 : Int) ≤ r; omega, by show (r : Int) ≤ 9223372036854775807; omega⟩, by show (0 : Int) ≤ 0; omega, by show (0 : Int) ≤ part; omega, ⟨by show (-9223372036854775808 : Int) ≤ part; omega, by show (part : Int) ≤ 9223372036854775807; omega⟩, by show (0 : Int) ≤ 0; omega, by show (0 : Int) < 1; omega, by show (0 : Int) ≤ 0; omega, by show (0 : Int) < 1; omega, by show (0 : Int) ≤ 0; omega, by show (0 : Int) < 2; omega, fun i hi => by cases hi⟩
theorem CutR.start (n r part : Nat) : CutR (layAll (St.new 1 1 2 n) [cutF r part]) n r part 0 true 0 none := by
  have e : layAll (St.new 1 1 2 n) [cutF r part] = (St.new 1 1 2 n).addCut r part := by
    show (St.new 1 1 2 n).lay (cutF r part) = _
    simp [St.lay, cutF, St.new]
  rw [e]
  refine ⟨rfl, fun _ => rfl, fun _ => rfl, rfl, rfl, rfl, rfl, rfl, rfl, rfl, rfl, rfl, ⟨(Bd.new 1 1 2 n).cnt, (Bd.new 1 1 2 n).er, (Bd.new 1 1 2 n).nx, fun k v hv => ?_⟩⟩
  simp only [St.addCut] at hv
  split at hv
  · have := Option.some.inj hv; omega
  · cases hv
theorem CutR.tick {A : St} {n r part i : Nat} {on : Bool} {next : Int} {pg : Option (List Nat)} (h : CutR A n r part i on next pg) {j : Nat} (hj : j < 3) : CutR (A.tick j) n r part (i + 1) on next pg :=
  ⟨h.on, h.cuts, h.dead, h.noP, h.flips, h.d, h.b, h.p, h.y, by rw [tick_num A j hj, h.num]; omega, h.nx, h.pg, (h.bd.tick j).mono (by omega)⟩
theorem CutR.read {A : St} {n r part i : Nat} {on : Bool} {next : Int} {pg : Option (List Nat)} (h : CutR A n r part i on next pg) (hi : i ≤ 20) (hne : i ≠ r) : A.doRead0 0 0 0 = (A.tick 0, some (pageS n pg), 0) := by
  have hn : A.num < A.dead 0 := by rw [h.num, h.dead]; unfold never; omega
  have hc : A.cuts A.num = none := by rw [h.num, h.cuts, if_neg (by omega)]
  unfold St.doRead0
  rw [hc]
  simp only [hn, if_true, h.y, h.pg]
theorem CutR.on' {A : St} {n r part i : Nat} {on : Bool} {next : Int} {pg : Option (List Nat)} (h : CutR A n r part i on next pg) : CutR (A.setOn true) n r part i true next pg :=
  ⟨rfl, h.cuts, h.dead, h.noP, h.flips, h.d, h.b, h.p, h.y, h.num, h.nx, h.pg, h.bd.off⟩
theorem CutR.cut {A : St} {n r part : Nat} (h : CutR A n r part r true 0 none) (hr : r ≤ 20) (bs : List Nat) :
    (A.doProgram 0 0 0 bs).2 = 40 ∧ CutR (A.doProgram 0 0 0 bs).1 n r part (r + 1) false 1 (some (newPage r never n (min part n) bs)) := by
  have hn : A.num < A.dead 0 := by rw [h.num, h.dead]; unfold never; omega
  have hc : A.cuts A.num = some (part : Int) := by rw [h.num, h.cuts, if_pos rfl]
  have hb := h.bd.program (d := 0) (b := 0) (p := 0) (bs := bs) (by rw [h.nx, h.p]; decide)
  unfold St.doProgram at hb ⊢
  rw [hc] at hb ⊢
  simp only [hn, if_true] at hb ⊢
  have e1 : ((A.tick 1).cutOff.blk 0 0).noP = never := h.noP
  have e2 : ((A.tick 1).cutOff).Y = n := h.y
  refine ⟨trivial, rfl, h.cuts, h.dead, ?_, ?_, h.d, h.b, h.p, h.y, ?_, ?_, ?_, hb.mono (by omega)⟩
  · simp [St.progPart, St.setBlk, Blk.prog]; exact h.noP
  · simp [St.progPart, St.setBlk, Blk.prog]; exact h.flips
  · show (A.tick 1).num = _
    rw [tick_num A 1 (by decide), h.num]
    omega
  · rw [prog_next]
    show (A.blk 0 0).next + 1 = 1
    rw [h.nx]
    omega
  · simp only [St.progPart, St.setBlk, Blk.prog, and_self, if_true]
    rw [e1, e2, h.num, h.y]
    have : (min (part : Int) (n : Int)).toNat = min part n := by omega
    rw [this]
theorem CutR.last {A : St} {n r part i : Nat} {pg : Option (List Nat)} (h : CutR A n r part i true 1 pg) (hi : i ≤ 20) (hne : i ≠ r) (bs : List Nat) : (A.doProgram 0 0 1 bs).2 = 0 := by
  have hn : A.num < A.dead 0 := by rw [h.num, h.dead]; unfold never; omega
  have hv : A.num < never := by rw [h.num]; unfold never; omega
  have hc : A.cuts A.num = none := by rw [h.num, h.cuts, if_neg (by omega)]
  unfold St.doProgram
  rw [hc]
  simp only [hn, if_true]
  unfold progRet
  rw [h.noP, if_pos hv]
theorem pageS_some (Y : Nat) (l : List Nat) : pageS Y (some l) = l := rfl
theorem nth_newPage {n r part : Nat} (hr : (r : Int) < never) {bs : List Nat} (hb : bs.length = n) {k : Nat} (hk : k < n) : nth (newPage r never n (min part n) bs) k = if k < part then nth bs k else 255 := by
  unfold newPage
  rw [if_pos hr]
  unfold nth
  simp only [List.getD_eq_getElem?_getD]
  by_cases h : k < part
  · rw [if_pos h, List.getElem?_append_left (by simp; omega), List.getElem?_take, if_pos (by omega)]
  · rw [if_neg h, List.getElem?_append_right (by simp; omega)]
    simp [hb]
    rw [List.getElem?_replicate, if_pos (by omega)]
    rfl
set_option maxHeartbeats 12800000 in
set_option maxRecDepth 4000 in
theorem law_NandCuts (ao : Option Addr) (len cap : Nat) (bs : List Nat) {w : World} (hx : ArgB w ao len bs) (hl : len ≤ cap ∧ cap ≤ 9223372036854775807) (p0 : Int) (hp0 : I64 p0) (r0 : Int) (hr0 : I64 r0) :
    Calls Try.prog 5 #[.slice ao len cap, num p0, num r0] w fun e w' => e = .returned (.bool true) ∧ w.grownBy w' none := by
  have hnn := hnot
  obtain ⟨hbl, hrd⟩ := hx
  by_cases hno : len = 0 ∨ 300 < len
  · by_cases h0 : len = 0
    · have b1 : ((len : Int) == 0) = true := by rw [h0]; rfl
      clear hno
      go_enter Try.func5, Try.ntmps5
      go_wp2_with fail
      refine (awake_ok w).mono ?_
      rintro e w1 ⟨rfl, hg1⟩
      go_wp2_with fail
      go_ret
      exact ⟨rfl, hg1⟩
    · have b1 : ((len : Int) == 0) = false := by simp; omega
      have b2 : (300 : Int) < (len : Int) := by omega
      clear hno
      go_enter Try.func5, Try.ntmps5
      go_wp2_with fail
      refine (awake_ok w).mono ?_
      rintro e w1 ⟨rfl, hg1⟩
      go_wp2_with fail
      go_ret
      exact ⟨rfl, hg1⟩
  · have l1 : 1 ≤ len := by omega
    have l2 : len ≤ 300 := by omega
    have b1 : ((len : Int) == 0) = false := by simp; omega
    have b2 : ¬ (300 : Int) < (len : Int) := by omega
    obtain ⟨gs, off, rfl, src⟩ := hrd.src (by omega)
    obtain ⟨part, hpart⟩ : ∃ n, n = absS p0 % (2 * len) := ⟨_, rfl⟩
    obtain ⟨r, hr⟩ : ∃ n, n = absS r0 % 5 := ⟨_, rfl⟩
    have r1 : r < 5 := by omega
    have pt1 : part < 2 * len := by rw [hpart]; exact Nat.mod_lt _ (by omega)
    have HA1 : Hid (∀ w, Calls Try.prog 14 #[num p0] w fun e w' => e = .returned (num (absS p0)) ∧ w' = w) := fun w => abs_ok p0 hp0 w
    have HA2 : Hid (∀ w, Calls Try.prog 14 #[num r0] w fun e w' => e = .returned (num (absS r0)) ∧ w' = w) := fun w => abs_ok r0 hr0 w
    have ha1 := absS_le hp0
    have ha2 := absS_le hr0
    have HPt : Hid ((absS p0 : Int) % (2 * (len : Int)) = (part : Int)) := by rw [Hid, hpart]; simp
    have HR : Hid ((absS r0 : Int) % 5 = (r : Int)) := by rw [Hid, hr]; omega
    have ha1' : (absS p0 : Int) ≤ 9223372036854775807 := by omega
    have ha2' : (absS r0 : Int) ≤ 9223372036854775807 := by omega
    have l1' : (1 : Int) ≤ (len : Int) := by omega
    have l2' : (len : Int) ≤ 300 := by omega
    have r1' : (r : Int) < 5 := by omega
    have hO := CutR.start len r part
    clear hpart hr ha1 ha2 hno
    go_enter Try.func5, Try.ntmps5
    go_wp2_with fail
    refine (awake_ok w).mono ?_
    rintro e w1 ⟨rfl, hg1⟩
    go_wp2_with fail
    refine (HA1.out _).mono ?_
    rintro e w1 ⟨rfl, rfl⟩
    go_wp2_with (rw [HPt.out])
    refine (HA2.out _).mono ?_
    rintro e w1 ⟨rfl, rfl⟩
    obtain ⟨W, hW⟩ : ∃ W, W = w1.alloc (.cells #[num 5, num r, num 0, num 0, num 0, num 0, num part, .slice none 0 0] 52) := ⟨_, rfl⟩
    have hgW : w1.grownBy W none := by rw [hW]; exact World.grownBy_alloc w1 _ none
    have hbx : W.heap[w1.heap.size]? = some (.cells (fltL (cutF r part)).toArray 52) := by rw [hW]; exact heap_alloc_new w1 _
    have Hw : Hid _ := hW
    have hM : FaultsM W (some ⟨w1.heap.size, 0, none⟩) [cutF r part] := by
      refine ⟨.inr ⟨w1.heap.size, 0, rfl, fun k f hf j v hv => ?_⟩, fun f hf => ?_⟩
      · cases k with
        | zero =>
          simp at hf
          subst hf
          have := (At.of_row (o := j) hbx (by simpa using hv)).1
          simpa using this
        | succ k => simp at hf
      · simp at hf
        subst hf
        exact ⟨.inl rfl, by simp [cutF]⟩
    have HN : Hid (Calls Try.prog 10 #[shapeV 1 1 2 len, .slice (some ⟨w1.heap.size, 0, none⟩) 1 1] W (NewPost W (layAll (St.new 1 1 2 len) [cutF r part]))) :=
      new_ok 1 1 2 len (dims_new (by decide) (by decide) (by decide) (by decide) (by decide) (by decide) l1 (by omega)) (by omega) (fs := [cutF r part]) (cap := 1) hM (fun f hf => by simp at hf; subst hf; exact cutF_may r1 (by omega)) (by simp) (fun f hf => by simp at hf; subst hf; simp [cutF])
    clear hW hbx hM HA1
    go_wp2_with (first | rw [HR.out] | rw [← Hw.out])
    refine HN.out.mono ?_
    rintro e w2 ⟨M, lab, rfl, h2, st2⟩
    have st02 := Stp.from (grownBy_trans hg1 hgW) st2
    clear HPt Hw HN st2 hgW hg1
    go_wp2_with fail
    go_loopw [11] (fun i wr => ∃ k : Nat, ∃ A lab', k ≤ r ∧ i = num k ∧ CutR A len r part k true 0 none ∧ Arr wr M A lab' ∧ Stp (fun _ => none) lab' w wr) (fun i _ => r - (intOf i).toNat)
    case atStart => exact ⟨0, _, lab, by omega, rfl, hO, h2, st02⟩
    case round =>
      clear hO h2 st02
      obtain ⟨k, A, lab', hk, rfl, hO, hA, st⟩ := hrel
      by_cases hlt : k < r
      · have q1 : (k : Int) < (r : Int) := by omega
        have hE := Read_done0 hA hO.bd (by omega) 0 0 0 hO.on (by rw [hO.d]; decide) (by rw [hO.b]; decide) (by rw [hO.p]; decide) hO.flips
        rw [hO.read (by omega) (by omega)] at hE
        have HE : Hid (Calls Try.prog 18 #[ptr M.a 0, num 0, num 0, num 0] wr (ReadPost wr M lab' (A.tick 0, some (pageS len none), 0))) := hE
        have hO' := hO.tick (j := 0) (by decide)
        clear hE hO
        go_wp2_with fail
        refine (HA2.out _).mono ?_
        rintro e wr ⟨rfl, rfl⟩
        go_wp2_with (rw [HR.out])
        refine HE.out.mono ?_
        rintro e w5 ⟨lab5, v5, rfl, h5, st5, _⟩
        simp only at h5 ⊢
        have st05 := st.trans st5
        clear HE st5 st hA
        go_wp2_with fail
        exact ⟨⟨k + 1, _, lab5, by omega, by go_num, hO', h5, st05⟩, by simp [intOf]; omega⟩
      · obtain rfl : k = r := by omega
        have q1 : ¬ (k : Int) < (k : Int) := by omega
        have hlg : lab' gs = none := st.no (lt_of_cell (src.cell 0 (by omega))) rfl
        have srcR : ∀ {w'}, w.grownBy w' none → Src w' gs off bs := fun {w'} hg => src.of_heap (hg.block gs (lt_of_cell (src.cell 0 (by omega))) (by simp))
        obtain ⟨e5, hO5⟩ := hO.cut (by omega) bs
        have hE := Program_done hA hO.bd (by omega) 0 0 0 gs off cap hO.on (by rw [hO.d]; decide) (by rw [hO.b]; decide) (by rw [hO.p]; decide) hO.nx (bs := bs) (srcR st.grownBy) (by rw [hO.y]; exact hbl) (by rw [hO.y]; exact hl.1) hlg
        rw [hO.y] at hE
        have HE : Hid (Calls Try.prog 17 #[ptr M.a 0, num 0, num 0, num 0, .slice (some ⟨gs, off, none⟩) len cap] wr (OpPost wr M lab' (A.doProgram 0 0 0 bs))) := hE
        generalize A.doProgram 0 0 0 bs = R5 at HE hO5 e5
        obtain ⟨A5, r5⟩ := R5
        simp only at e5 hO5
        subst e5
        have HSrc : Hid (∀ {w'}, w.grownBy w' none → Src w' gs off bs) := @srcR
        clear hE hO hlg srcR src
        go_wp2_with fail
        refine (HA2.out _).mono ?_
        rintro e wr ⟨rfl, rfl⟩
        go_wp2_with (rw [HR.out])
        refine HE.out.mono ?_
        rintro e w5 ⟨lab5, rfl, h5, st5⟩
        simp only at h5 ⊢
        have st05 := st.trans st5
        have hoff := hO5.on
        have HR1 : Hid (Calls Try.prog 18 #[ptr M.a 0, num 0, num 0, num 0] w5 fun e w' => e = .returned (.tuple #[.slice none 0 0, num 40]) ∧ w' = w5) := by
          have hr : refS A5 0 0 0 = 40 := by simp [refS, hoff]
          have := Read_refused h5 0 0 0 (by rw [hr]; decide)
          rw [hr] at this
          exact this
        have HR2 : Hid (Calls Try.prog 17 #[ptr M.a 0, num 0, num 0, num 1, .slice (some ⟨gs, off, none⟩) len cap] w5 fun e w' => e = .returned (num 40) ∧ w' = w5) := by
          have hr : refS A5 0 0 1 = 40 := by simp [refS, hoff]
          have := Program_refused h5 0 0 1 (.slice (some ⟨gs, off, none⟩) len cap) (by rw [hr]; decide)
          rw [hr] at this
          exact this
        have HR3 : Hid (Calls Try.prog 15 #[ptr M.a 0, num 0, num 0] w5 fun e w' => e = .returned (num 40) ∧ w' = w5) := by
          have hr : refS A5 0 0 0 = 40 := by simp [refS, hoff]
          have := Erase_refused h5 0 0 (by rw [hr]; decide)
          rw [hr] at this
          exact this
        have HOp : Hid (Calls Try.prog 20 #[ptr M.a 0] w5 fun e w' => e = .returned (num ((k : Int) + 1)) ∧ w5.grownBy w' none) := by
          have := ops_ok h5 hO5.bd (by omega)
          rw [hO5.num] at this
          exact this
        clear HE st5 st hA hoff
        go_wp2_with fail
        refine HR1.out.mono ?_
        rintro e w5 ⟨rfl, rfl⟩
        go_wp2_with fail
        refine HR2.out.mono ?_
        rintro e w5 ⟨rfl, rfl⟩
        go_wp2_with fail
        refine HR3.out.mono ?_
        rintro e w5 ⟨rfl, rfl⟩
        go_wp2_with fail
        refine HOp.out.mono ?_
        rintro e w6 ⟨rfl, hg6⟩
        have h6 := h5.more hg6
        have st06 := st05.grown hg6
        clear h5 st05 hg6 HR1 HR2 HR3 HOp
        go_wp2_with fail
        refine (on_ok h6).mono ?_
        rintro e w7 ⟨rfl, h7, st7⟩
        have hO7 := hO5.on'
        have st07 := st06.trans st7
        have hE := Read_done0 h7 hO7.bd (by omega) 0 0 0 hO7.on (by rw [hO7.d]; decide) (by rw [hO7.b]; decide) (by rw [hO7.p]; decide) hO7.flips
        rw [hO7.read (by omega) (by omega), pageS_some] at hE
        have hpl : (newPage k never len (min part len) bs).length = len := newPage_len hbl (by omega)
        have hknv : (k : Int) < never := by unfold never; omega
        have hnp : ∀ j, j < len → nth (newPage k never len (min part len) bs) j = if j < part then nth bs j else 255 := fun j hj => nth_newPage hknv hbl hj
        have hO8 := hO7.tick (j := 0) (by decide)
        generalize newPage (k : Int) never len (min part len) bs = PG at hE hpl hnp hO8
        have HE : Hid (Calls Try.prog 18 #[ptr M.a 0, num 0, num 0, num 0] w7 (ReadPost w7 M lab5 ((A5.setOn true).tick 0, some PG, 0))) := hE
        clear hE hO7 h6 st06 st7 hO5
        go_wp2_with fail
        refine HE.out.mono ?_
        rintro e w8 ⟨lab8, v8, rfl, h8, st8, hv8⟩
        simp only at h8 hv8 ⊢
        obtain ⟨bs8, g8, e8, rfl, hg8, hl8, hr8, hle8⟩ := hv8.resolve_left (fun e => by cases e.1)
        obtain rfl : bs8 = PG := (Option.some.inj e8).symm
        have st08 := st07.trans st8
        have hrow : ∀ j, j < len → w8.cell? ⟨g8, j, none⟩ = some (.int .u8 (nth bs8 j : Nat)) := fun j hj => by rw [cell_row hr8, valsB_at (by omega)]
        rw [hpl]
        have srcW := HSrc.out st08.grownBy
        have b5 : ((len : Int) != (len : Int)) = false := by simp
        have b6 : ((k : Int) + 1 != (k : Int) + 1) = false := by simp
        have HNp : Hid _ := hnp
        have HRow : Hid _ := hrow
        have HSW : Hid _ := srcW
        clear e8 hr8 hle8 hv8 HE st8 st07 h7 hnp hrow srcW hpl
        go_wp2_with fail
        refine (HA2.out _).mono ?_
        rintro e w8 ⟨rfl, rfl⟩
        go_wp2_with (rw [HR.out])
        go_loopw [22] (fun i wr => wr.heap = w8.heap ∧ wr.os = w8.os ∧ wr.tape = w8.tape ∧ wr.output = w8.output ∧ ∃ j : Nat, j ≤ len ∧ i = num j) (fun i _ => len - (intOf i).toNat)
        case atStart => exact ⟨rfl, rfl, rfl, rfl, 0, Nat.zero_le _, rfl⟩
        case round =>
          obtain ⟨hh1, hh2, hh3, hh4, j, hj, rfl⟩ := hrel
          have hce : ∀ a : Addr, wr.cell? a = w8.cell? a := fun a => by simp [World.cell?, hh1]
          have hA8 : Arr wr M ((A5.setOn true).tick 0) lab8 := h8.kept (fun g r hr _ => ⟨by rw [hh1], hr⟩) (fun g hg => by rw [hh1]; exact h8.lt g hg)
          have hstr : Stp (fun _ => none) lab8 w wr := ⟨hh2.trans st08.os, hh3.trans st08.tape, hh4.trans st08.output, by rw [hh1]; exact st08.size, fun g hg hl => by rw [hh1]; exact st08.same g hg hl, st08.own⟩
          by_cases hjl : j < len
          · have m1 : (j : Int) < (len : Int) := by omega
            have m2 : (len : Int) ≤ (cap : Int) := by omega
            have hcx := HRow.out j hjl
            have hcb := HSW.out.cell j (by omega)
            rw [HNp.out j hjl] at hcx
            rw [← hce] at hcx hcb
            by_cases hjp : j < part
            · rw [if_pos hjp] at hcx
              have m3 : (j : Int) < (part : Int) := by omega
              have m4 : decide ((j : Int) < (part : Int)) = true := by simpa using m3
              have m5 : (((nth bs j : Nat) : Int) != ((nth bs j : Nat) : Int)) = false := by simp
              have m6 : decide ((part : Int) ≤ (j : Int)) = false := by simp; omega
              have m7 : decide (part ≤ j) = false := by simp; omega
              have m8 : ¬ part ≤ j := by omega
              clear hce HRow HNp HSW hA8 hstr
              go_wp2_with fail
              go_quiet (fail)
              go_wp2_with fail
              exact ⟨⟨hh1, hh2, hh3, hh4, j + 1, by omega, by go_num⟩, by simp [intOf]; omega⟩
            · rw [if_neg hjp] at hcx
              have m3 : ¬ (j : Int) < (part : Int) := by omega
              have m4 : decide ((j : Int) < (part : Int)) = false := by simpa using m3
              have m6 : decide ((part : Int) ≤ (j : Int)) = true := by simp; omega
              clear hce HRow HNp HSW hA8 hstr
              go_wp2_with fail
              go_quiet (fail)
              go_wp2_with fail
              exact ⟨⟨hh1, hh2, hh3, hh4, j + 1, by omega, by go_num⟩, by simp [intOf]; omega⟩
          · obtain rfl : j = len := by omega
            have m1 : ¬ (j : Int) < (j : Int) := by omega
            have HNx : Hid (Calls Try.prog 19 #[ptr M.a 0, num 0, num 0] wr fun e w' => e = .returned (num 1) ∧ w' = wr) := by
              have := next_ok hA8 0 0 (by rw [hO8.d]; decide) (by rw [hO8.b]; decide)
              rw [hO8.nx] at this
              exact this
            have hlg8 : lab8 gs = none := hstr.no (by
              have := HSrc.out (World.grownBy.refl w none)
              exact lt_of_cell (this.cell 0 (by omega))) rfl
            have hE := Program_done hA8 hO8.bd (by omega) 0 0 1 gs off cap hO8.on (by rw [hO8.d]; decide) (by rw [hO8.b]; decide) (by rw [hO8.p]; decide) hO8.nx (bs := bs) (HSrc.out hstr.grownBy) (by rw [hO8.y]; exact hbl) (by rw [hO8.y]; exact hl.1) hlg8
            have e9 := hO8.last (by omega) (by omega) bs
            rw [hO8.y] at hE
            have HE : Hid (Calls Try.prog 17 #[ptr M.a 0, num 0, num 0, num 1, .slice (some ⟨gs, off, none⟩) j cap] wr (OpPost wr M lab8 (((A5.setOn true).tick 0).doProgram 0 0 1 bs))) := hE
            generalize ((A5.setOn true).tick 0).doProgram 0 0 1 bs = R9 at HE e9
            obtain ⟨A9, r9⟩ := R9
            simp only at e9
            subst e9
            clear hE hce HRow HNp HSW hA8 hO8 hlg8
            go_wp2_with fail
            refine HNx.out.mono ?_
            rintro e wr ⟨rfl, rfl⟩
            go_wp2_with fail
            refine HE.out.mono ?_
            rintro e w9 ⟨lab9, rfl, h9, st9⟩
            have st09 := hstr.trans st9
            clear HE HNx hstr st9
            go_wp2
            go_ret
            exact ⟨rfl, st09.grownBy⟩
end Nd
end Go.Proofs.Ytojamicakkecbaa
