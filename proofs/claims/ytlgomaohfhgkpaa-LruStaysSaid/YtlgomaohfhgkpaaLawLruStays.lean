/- Layer 10 (lru): the walk of LruStays. -/
import Derived.Test.YtlgomaohfhgkpaaLn
namespace Go.Proofs.Ytlgomaohfhgkpaa
open Go.RowKit Go.Maps
namespace Lr
structure StE (w wr : World) (c mb : Nat) (M key : Int) (L : List Ent) (Ks : List Int) : Prop where
  cl : CL wr c M (But (From w) mb) L
  set : SetI wr mb Ks
  st : StI M key L Ks
  gr : w.grownBy wr none
  ge : w.heap.size ≤ mb
theorem StE.frm {w wr : World} {c mb : Nat} {M key : Int} {L : List Ent} {Ks : List Int} (h : StE w wr c mb M key L Ks) : ∀ g, wr.heap.size ≤ g → But (From w) mb g := fun g hg => ⟨from_new h.gr g hg, by have := h.set.lt; omega⟩
theorem StE.mid {w wr w1 : World} {c mb : Nat} {M key : Int} {L : List Ent} {Ks : List Int} (h : StE w wr c mb M key L Ks) (hs : Stp (But (From w) mb) wr w1) : SetI w1 mb Ks ∧ w.grownBy w1 none :=
  ⟨h.set.of_heap (hs.same mb h.set.lt fun k => k.2 rfl), hs.wide.back h.gr fun _ k => k⟩
theorem grown_in {w w1 w2 : World} {mb : Nat} (h : w.grownBy w1 none) (hg : w1.grownBy w2 (some mb)) (hm : w.heap.size ≤ mb) : w.grownBy w2 none := grown_new h hg hm
theorem StE.put {w wr : World} {c mb : Nat} {M key k : Int} {L : List Ent} {Ks : List Int} (h : StE w wr c mb M key L Ks) (h1 : 1 ≤ M) (h2 : M ≤ 12) (hK : (Ks.length : Int) < M) (hk : I64 k) (hne : k ≠ key) :
    Calls Try.prog 11 #[ptr c, .agg #[num k, u64v 0, .bool false]] wr fun r w1 => (∃ v, r = .returned v) ∧ w.grownBy w1 none ∧ ∃ w2, (Instr.mapUpdate 57 (.map (some mb)) (num k) (num 1)).run Try.prog w1 = .ok () w2 ∧ ∃ L' Ks', StE w w2 c mb M key L' Ks' := by
  have hl := h.st.1
  refine (Put_ok h.cl h1 h.frm (x := ⟨k, 0, false⟩) hk (by omega)).mono ?_
  rintro r w1 ⟨rfl, hC, hs⟩
  obtain ⟨hS, hg⟩ := h.mid hs
  obtain ⟨w2, hrun, hS2, hg2⟩ := hS.put hk (by omega)
  have hst := h.st.put h1 h.cl.once (x := ⟨k, 0, false⟩) hne
  have hC2 : CL w2 c M (But (From w) mb) (putL M ⟨k, 0, false⟩ L) := hC.stp (T := fun g => g = mb) ⟨hg2.os, hg2.tape, hg2.output, hg2.size, fun g hg hn => hg2.block g hg fun e => hn (Option.some.inj e)⟩ (fun g hg hx => hx.2 hg)
  exact ⟨⟨_, rfl⟩, hg, w2, hrun, _, _, hC2, hS2, hst, grown_in hg hg2 h.ge, h.ge⟩
theorem StE.get {w wr : World} {c mb : Nat} {M key k : Int} {L : List Ent} {Ks : List Int} (h : StE w wr c mb M key L Ks) (h2 : M ≤ 12) (hK : (Ks.length : Int) < M) (hk : I64 k) (hne : k ≠ key) :
    Calls Try.prog 14 #[ptr c, num k] wr fun r w1 => w.grownBy w1 none ∧ ∃ v, (r = .returned (.tuple #[u64v v, .bool true]) ∧ ∃ w2, (Instr.mapUpdate 57 (.map (some mb)) (num k) (num 1)).run Try.prog w1 = .ok () w2 ∧ ∃ L' Ks', StE w w2 c mb M key L' Ks') ∨ (r = .returned (.tuple #[u64v v, .bool false]) ∧ ∃ L' Ks', (Ks'.length : Int) < M ∧ StE w w1 c mb M key L' Ks') := by
  refine (Get_ok h.cl hk).mono ?_
  rintro r w1 ⟨rfl, hC, hs⟩
  obtain ⟨hS, hg⟩ := h.mid hs
  have hst := h.st.get hne
  refine ⟨hg, getV L k, ?_⟩
  cases hl : (look L k).isSome with
  | false =>
    rw [hl] at hst
    exact .inr ⟨rfl, _, _, hK, hC, hS, hst, hg, h.ge⟩
  | true =>
    rw [hl] at hst
    obtain ⟨w2, hrun, hS2, hg2⟩ := hS.put hk (by omega)
    have hC2 : CL w2 c M (But (From w) mb) (getL L k) := hC.stp (T := fun g => g = mb) ⟨hg2.os, hg2.tape, hg2.output, hg2.size, fun g hg hn => hg2.block g hg fun e => hn (Option.some.inj e)⟩ (fun g hg hx => hx.2 hg)
    exact .inl ⟨rfl, w2, hrun, _, _, hC2, hS2, hst, grown_in hg hg2 h.ge, h.ge⟩
/-- The end. -/
theorem StE.ends {w wr : World} {c mb : Nat} {M key : Int} {L : List Ent} {Ks : List Int} (h : StE w wr c mb M key L Ks) (hk : I64 key) (hon : (L.map Ent.key).Nodup) :
    Calls Try.prog 14 #[ptr c, num key] wr fun r w1 => ∃ v b, r = .returned (.tuple #[u64v v, .bool b]) ∧ (M ≤ (Ks.length : Int) ∨ ¬ M ≤ (Ks.length : Int) ∧ b = true ∧ v = 77) ∧ (∀ ty, (Builtin.len_ #[57] ty #[.map (some mb)]).run Try.prog w1 = .ok (num Ks.length) w1) ∧
      Calls Try.prog 21 #[ptr c] w1 (fun r w2 => (∃ z : Nat, (z : Int) ≤ M ∧ r = .returned (num z)) ∧ w2 = w1) ∧ w.grownBy w1 none := by
  refine (Get_ok h.cl hk).mono ?_
  rintro r w1 ⟨rfl, hC, hs⟩
  obtain ⟨hS, hg⟩ := h.mid hs
  refine ⟨_, _, rfl, ?_, fun ty => hS.len ty, (Len_ok hC).mono ?_, hg⟩
  · by_cases hM : M ≤ (Ks.length : Int)
    · exact .inl hM
    · obtain ⟨X, d, Y, e, _⟩ := h.st.2.resolve_left hM
      have hX : ∀ y ∈ X, y.key ≠ key := by
        rw [e, List.map_append, List.nodup_append] at hon
        exact fun y hy => hon.2.2 _ (List.mem_map_of_mem hy) _ (by simp)
      have hlk : look L key = some ⟨key, 77, d⟩ := by rw [e]; exact look_mid hX rfl
      exact .inr ⟨hM, by rw [hlk]; rfl, by rw [getV, hlk]; rfl⟩
  · rintro r w2 ⟨rfl, rfl⟩
    exact ⟨⟨_, by have := getL_len L key; have := h.st.1; omega, rfl⟩, rfl⟩
theorem StE.len {w wr : World} {c mb : Nat} {M key : Int} {L : List Ent} {Ks : List Int} (h : StE w wr c mb M key L Ks) : Calls Try.prog 21 #[ptr c] wr (fun r w2 => (∃ z : Nat, (z : Int) ≤ M ∧ r = .returned (num z)) ∧ w2 = wr) := by
  refine (Len_ok h.cl).mono ?_
  rintro r w2 ⟨rfl, rfl⟩
  exact ⟨⟨_, h.st.1, rfl⟩, rfl⟩
/-- What holds while the first keys are put. -/
def FiI (w wr : World) (c : Nat) (M : Int) : Prop := ∃ L : List Ent, (L.length : Int) ≤ M ∧ CL wr c M (From w) L ∧ w.grownBy wr none
theorem FiI.put {w wr : World} {c : Nat} {M k : Int} (h : FiI w wr c M) (hM : 1 ≤ M) (hM2 : M ≤ 12) (hk : I64 k) :
    Calls Try.prog 11 #[ptr c, .agg #[num k, u64v 0, .bool false]] wr fun r w' => (∃ v, r = .returned v) ∧ FiI w w' c M := by
  obtain ⟨L, hl, hC, hg⟩ := h
  refine (Put_ok hC hM (from_new hg) (x := ⟨k, 0, false⟩) hk (by omega)).mono ?_
  rintro r w' ⟨rfl, hC', hs⟩
  exact ⟨⟨_, rfl⟩, _, (putL_len hM hl).1, hC', hs.back hg (fun _ h => h)⟩
theorem FiI.last {w wr : World} {c : Nat} {M k : Int} (h : FiI w wr c M) (hM : 1 ≤ M) (hM2 : M ≤ 12) (hk : I64 k) :
    Calls Try.prog 11 #[ptr c, .agg #[num k, u64v 77, .bool false]] wr fun r w1 => (∃ v, r = .returned v) ∧ ∀ w2, w2 = w1.alloc (.map #[] 0) → ∃ L, StE w w2 c w1.heap.size M k L [] := by
  obtain ⟨L, hl, hC, hg⟩ := h
  refine (Put_ok hC hM (from_new hg) (x := ⟨k, 77, false⟩) hk (by omega)).mono ?_
  rintro r w1 ⟨rfl, hC1, hs1⟩
  refine ⟨⟨_, rfl⟩, fun w2 hw2 => ?_⟩
  have hg1 := hs1.back hg (fun _ h => h)
  have hg2 : w1.grownBy w2 none := by rw [hw2]; exact World.grownBy_alloc w1 _ none
  obtain ⟨d, T, e, _, _, hT⟩ := putL_first M ⟨k, 77, false⟩ L
  have hT1 := hT hM hl
  refine ⟨_, hC1.but hg2 (Nat.le_refl _), by rw [hw2]; exact set_made w1, ?_, grownBy_trans hg1 hg2, hg1.size⟩
  refine ⟨(putL_len hM hl).1, .inr ⟨[], d, T, e, fun x hx => by cases hx⟩⟩
set_option maxRecDepth 8000 in
set_option maxHeartbeats 6400000 in
theorem law_LruStays (most : Int) (hm : I64 most) (key : Int) (hk : I64 key) (ao : Option Addr) (len cap : Nat) (xs : List Int) {w : World} (hx : Arg w ao len xs) (hl : len ≤ 9223372036854775807)
    (bo : Option Addr) (ben bap : Nat) (bs : List Bool) (hb : ArgL w bo ben bs) (hbl : ben ≤ 9223372036854775807) :
    Calls Try.prog 4 #[num most, num key, .slice ao len cap, .slice bo ben bap] w fun e w' => e = .returned (.bool true) ∧ w.grownBy w' none := by
  have hn := hnot
  have hmm := @run_makeMap Try.prog
  obtain ⟨M, hM⟩ : ∃ M, M = 1 + absI most % 12 := ⟨_, rfl⟩
  have hM1 : 1 ≤ M := by rw [hM]; have := Int.emod_nonneg (absI most) (by decide : (12 : Int) ≠ 0); omega
  have hM2 : M ≤ 12 := by rw [hM]; have := Int.emod_lt_of_pos (absI most) (by decide : (0 : Int) < 12); omega
  have hMe := hide hM.symm
  have H0 : Hid (∀ w, Calls Try.prog 10 #[num most] w fun r w' => r = .returned (num (absI most)) ∧ w' = w) := fun w => abs_ok hm w
  have ha1 := absI_ge most
  have ha2 := absI_le hm
  clear hM
  have HX : Hid (∀ (wr : World) (i : Nat), w.grownBy wr none → i < len → ∃ g off, ao = some ⟨g, off, none⟩ ∧ wr.cell? ⟨g, off + i, none⟩ = some (num (nthI xs i)) ∧ I64 (nthI xs i)) := fun wr i hg hi => hx.at (.of_grown hg) hi
  have HB : Hid (∀ (wr : World) (i : Nat), w.grownBy wr none → i < ben → ∃ g off, bo = some ⟨g, off, none⟩ ∧ wr.cell? ⟨g, off + i, none⟩ = some (.bool (nthB bs i))) := fun wr i hg hi => hb.at (.of_grown hg) hi
  have hl' : (len : Int) ≤ 9223372036854775807 := by omega
  have hbl' : (ben : Int) ≤ 9223372036854775807 := by omega
  clear hx hb
  go_enter Try.func4, Try.ntmps4
  go_wp2_with fail
  refine (awake_ok w).mono ?_
  rintro r w1 ⟨rfl, hg1⟩
  have Hg1 := hide hg1
  clear hg1
  go_wp2_with fail
  refine (H0.out _).mono ?_
  rintro r w2 ⟨rfl, rfl⟩
  clear H0
  have HNew : Hid (∀ w, Calls Try.prog 9 #[num (1 + absI most % 12)] w (NewPost w M)) := fun w => by rw [hMe.out]; exact New_ok M hM1 w
  generalize absI most = A at *
  go_wp2_with fail
  refine (HNew.out _).mono ?_
  rintro r w3 ⟨c, _, rfl, hg2, hN⟩
  rw [hMe.out]
  generalize A % 12 = q at *
  clear ha1 ha2 HNew
  have hI0 : Hid (FiI w w3 c M) := ⟨[], by simp; omega, hN (From w) (from_new Hg1.out), grownBy_trans Hg1.out hg2⟩
  clear hN hg2 hMe Hg1
  go_wp2_with fail
  go_loopw [12] (fun iv wr => ∃ i : Nat, i ≤ 30 ∧ iv = num i ∧ FiI w wr c M) (fun iv _ => 30 - (intOf iv).toNat)
  case atStart => exact ⟨0, by omega, rfl, hI0.out⟩
  case round =>
    clear hI0
    obtain ⟨i, hi, rfl, hR⟩ := hrel
    by_cases hc : i < len ∧ i < 30
    · obtain ⟨hc1, hc2⟩ := hc
      have q1 : (i : Int) < (len : Int) := by omega
      have q2 : (i : Int) < 30 := by omega
      obtain ⟨g, off, rfl, hcell, hk5⟩ := HX.out wr i hR.choose_spec.2.2 hc1
      have HPut := hide (hR.put hM1 hM2 hk5)
      clear hR
      generalize nthI xs i = k at *
      go_wp2_with fail
      refine HPut.out.mono ?_
      rintro r w5 ⟨⟨v, rfl⟩, hR5⟩
      have HR5 := hide hR5
      clear hR5 HPut
      go_wp2_with fail
      go_roundw
      case rel => exact ⟨i + 1, by omega, by go_num, HR5.out⟩
      case measure => simp [intOf]; omega
    · have HLast := hide (hR.last hM1 hM2 hk)
      clear hR
      have hc3 : ¬ (i : Int) < (len : Int) ∨ ((i : Int) < (len : Int) ∧ ¬ (i : Int) < 30) := by omega
      clear hc
      rcases hc3 with hc1 | ⟨hc1, hc2⟩
      all_goals
        go_wp2_with fail
        refine HLast.out.mono ?_
        rintro r w5 ⟨⟨v, rfl⟩, hST0⟩
        obtain ⟨w6, hw6⟩ : ∃ w6, w6 = w5.alloc (.map #[] 0) := ⟨_, rfl⟩
        obtain ⟨L0, hSE0⟩ := hST0 w6 hw6
        have HSE0 := hide hSE0
        have Hw6 := hide hw6
        clear hw6 hST0 hSE0 HLast hc1
        obtain ⟨mb, hmb⟩ : ∃ mb, mb = w5.heap.size := ⟨_, rfl⟩
        have Hmb := hide hmb
        rw [← hmb] at HSE0
        clear hmb
        go_wp2_with (first | rw [← Hw6.out])
        rw [← Hmb.out]
        have HSE : Hid (∃ L Ks, ((Ks.length : Int) < M) ∧ StE w w6 c mb M key L Ks) := ⟨L0, [], by simp; omega, HSE0.out⟩
        clear HSE0 Hw6 Hmb
        go_loopw [14] (fun jv wr => ∃ j : Nat, j ≤ 60 ∧ jv = num j ∧ ∃ L Ks, ((Ks.length : Int) < M) ∧ StE w wr c mb M key L Ks) (fun jv _ => 60 - (intOf jv).toNat)
        case atStart => exact ⟨0, by omega, rfl, HSE.out⟩
        case round =>
          clear HSE
          obtain ⟨j, hj, rfl, L, Ks, hKl, hSE⟩ := hrel
          by_cases hd : j < len ∧ j < 60
          · obtain ⟨hd1, hd2⟩ := hd
            have p1 : (j : Int) < (len : Int) := by omega
            have p2 : (j : Int) < 60 := by omega
            have hcell : Hid (∀ w7, w.grownBy w7 none → ∃ g off, ao = some ⟨g, off, none⟩ ∧ w7.cell? ⟨g, off + j, none⟩ = some (num (nthI xs j)) ∧ I64 (nthI xs j)) := fun w7 h7 => HX.out w7 j h7 hd1
            obtain ⟨g, off, rfl, hcl, hk5⟩ := hcell.out wr hSE.gr
            have hcell : Hid (∀ w7, w.grownBy w7 none → w7.cell? ⟨g, off + j, none⟩ = some (num (nthI xs j))) := fun w7 h7 => by
              obtain ⟨g', off', e, h8, _⟩ := HX.out w7 j h7 hd1
              have e2 := Option.some.inj e
              injection e2 with e3 e4
              subst e3 e4
              exact h8
            generalize nthI xs j = k at *
            by_cases hkey : k = key
            · have HSE1 := hide hSE
              clear hSE
              go_wp2_with fail
              go_roundw
              case rel => exact ⟨j + 1, by omega, by go_num, _, _, hKl, HSE1.out⟩
              case measure => simp [intOf]; omega
            · by_cases hb1 : j < ben
              · have p3 : (j : Int) < (ben : Int) := by omega
                obtain ⟨g2, off2, rfl, hcb⟩ := HB.out wr j hSE.gr hb1
                generalize nthB bs j = bb at *
                cases bb
                · have HPut := hide (hSE.put hM1 hM2 hKl hk5 hkey)
                  clear hSE
                  go_wp2_with fail
                  refine HPut.out.mono ?_
                  rintro r w7 ⟨⟨v, rfl⟩, hg7, w8, hrun, L', Ks', hST⟩
                  have hc7 := hcell.out w7 hg7
                  clear HPut hg7
                  have Hrun := hide hrun
                  clear hrun
                  go_wp2_with fail
                  rw [Hrun.out]
                  have HST := hide hST
                  clear hST Hrun
                  have hl2 := fun ty => HST.out.set.len ty
                  have HLen := hide HST.out.len
                  by_cases hbig : M ≤ (Ks'.length : Int)
                  · clear HLen
                    go_wp2_with fail
                    have HEnd := hide (HST.out.ends hk HST.out.cl.once)
                    clear HST hl2
                    go_wp2_with fail
                    refine HEnd.out.mono ?_
                    rintro r w11 ⟨v, b, rfl, hvb, hlen, hL, hgr⟩
                    have HL := hide hL
                    have HGr := hide hgr
                    clear hL hgr HEnd
                    rcases hvb with hvb | ⟨hvb, rfl, rfl⟩
                    all_goals
                      go_wp2_with fail
                      refine HL.out.mono ?_
                      rintro r w12 ⟨⟨z, hz, rfl⟩, rfl⟩
                      clear HL
                      go_wp2_with fail
                      go_ret
                      exact ⟨rfl, HGr.out⟩
                  · go_wp2_with fail
                    refine HLen.out.mono ?_
                    rintro r w9 ⟨⟨z, hz, rfl⟩, rfl⟩
                    clear HLen hl2
                    go_wp2_with fail
                    go_roundw
                    case rel => exact ⟨j + 1, by omega, by go_num, _, _, by omega, HST.out⟩
                    case measure => simp [intOf]; omega
                · have HGet := hide (hSE.get hM2 hKl hk5 hkey)
                  clear hSE
                  go_wp2_with fail
                  refine HGet.out.mono ?_
                  rintro r w7 ⟨hg7, v, ⟨rfl, w8, hrun, L', Ks', hST⟩ | ⟨rfl, L', Ks', hKl', hST⟩⟩
                  · have hc7 := hcell.out w7 hg7
                    clear HGet hg7
                    have Hrun := hide hrun
                    clear hrun
                    go_wp2_with fail
                    rw [Hrun.out]
                    have HST := hide hST
                    clear hST Hrun
                    have hl2 := fun ty => HST.out.set.len ty
                    have HLen := hide HST.out.len
                    by_cases hbig : M ≤ (Ks'.length : Int)
                    · clear HLen
                      go_wp2_with fail
                      have HEnd := hide (HST.out.ends hk HST.out.cl.once)
                      clear HST hl2
                      go_wp2_with fail
                      refine HEnd.out.mono ?_
                      rintro r w11 ⟨v, b, rfl, hvb, hlen, hL, hgr⟩
                      have HL := hide hL
                      have HGr := hide hgr
                      clear hL hgr HEnd
                      rcases hvb with hvb | ⟨hvb, rfl, rfl⟩
                      all_goals
                        go_wp2_with fail
                        refine HL.out.mono ?_
                        rintro r w12 ⟨⟨z, hz, rfl⟩, rfl⟩
                        clear HL
                        go_wp2_with fail
                        go_ret
                        exact ⟨rfl, HGr.out⟩
                    · go_wp2_with fail
                      refine HLen.out.mono ?_
                      rintro r w9 ⟨⟨z, hz, rfl⟩, rfl⟩
                      clear HLen hl2
                      go_wp2_with fail
                      go_roundw
                      case rel => exact ⟨j + 1, by omega, by go_num, _, _, by omega, HST.out⟩
                      case measure => simp [intOf]; omega
                  · have HST := hide hST
                    clear HGet hg7 hST
                    have hl2 := fun ty => HST.out.set.len ty
                    have HLen := hide HST.out.len
                    by_cases hbig : M ≤ (Ks'.length : Int)
                    · clear HLen
                      go_wp2_with fail
                      have HEnd := hide (HST.out.ends hk HST.out.cl.once)
                      clear HST hl2
                      go_wp2_with fail
                      refine HEnd.out.mono ?_
                      rintro r w11 ⟨v, b, rfl, hvb, hlen, hL, hgr⟩
                      have HL := hide hL
                      have HGr := hide hgr
                      clear hL hgr HEnd
                      rcases hvb with hvb | ⟨hvb, rfl, rfl⟩
                      all_goals
                        go_wp2_with fail
                        refine HL.out.mono ?_
                        rintro r w12 ⟨⟨z, hz, rfl⟩, rfl⟩
                        clear HL
                        go_wp2_with fail
                        go_ret
                        exact ⟨rfl, HGr.out⟩
                    · go_wp2_with fail
                      refine HLen.out.mono ?_
                      rintro r w9 ⟨⟨z, hz, rfl⟩, rfl⟩
                      clear HLen hl2
                      go_wp2_with fail
                      go_roundw
                      case rel => exact ⟨j + 1, by omega, by go_num, _, _, by omega, HST.out⟩
                      case measure => simp [intOf]; omega
              · have p3 : ¬ (j : Int) < (ben : Int) := by omega
                have HPut := hide (hSE.put hM1 hM2 hKl hk5 hkey)
                clear hSE
                go_wp2_with fail
                refine HPut.out.mono ?_
                rintro r w7 ⟨⟨v, rfl⟩, hg7, w8, hrun, L', Ks', hST⟩
                have hc7 := hcell.out w7 hg7
                clear HPut hg7
                have Hrun := hide hrun
                clear hrun
                go_wp2_with fail
                rw [Hrun.out]
                have HST := hide hST
                clear hST Hrun
                have hl2 := fun ty => HST.out.set.len ty
                have HLen := hide HST.out.len
                by_cases hbig : M ≤ (Ks'.length : Int)
                · clear HLen
                  go_wp2_with fail
                  have HEnd := hide (HST.out.ends hk HST.out.cl.once)
                  clear HST hl2
                  go_wp2_with fail
                  refine HEnd.out.mono ?_
                  rintro r w11 ⟨v, b, rfl, hvb, hlen, hL, hgr⟩
                  have HL := hide hL
                  have HGr := hide hgr
                  clear hL hgr HEnd
                  rcases hvb with hvb | ⟨hvb, rfl, rfl⟩
                  all_goals
                    go_wp2_with fail
                    refine HL.out.mono ?_
                    rintro r w12 ⟨⟨z, hz, rfl⟩, rfl⟩
                    clear HL
                    go_wp2_with fail
                    go_ret
                    exact ⟨rfl, HGr.out⟩
                · go_wp2_with fail
                  refine HLen.out.mono ?_
                  rintro r w9 ⟨⟨z, hz, rfl⟩, rfl⟩
                  clear HLen hl2
                  go_wp2_with fail
                  go_roundw
                  case rel => exact ⟨j + 1, by omega, by go_num, _, _, by omega, HST.out⟩
                  case measure => simp [intOf]; omega
          · have HST := hide hSE
            clear hSE
            have hd3 : ¬ (j : Int) < (len : Int) ∨ ((j : Int) < (len : Int) ∧ ¬ (j : Int) < 60) := by omega
            clear hd
            rcases hd3 with hd1 | ⟨hd1, hd2⟩
            all_goals
              have HEnd := hide (HST.out.ends hk HST.out.cl.once)
              clear HST
              go_wp2_with fail
              refine HEnd.out.mono ?_
              rintro r w11 ⟨v, b, rfl, hvb, hlen, hL, hgr⟩
              have HL := hide hL
              have HGr := hide hgr
              clear hL hgr HEnd
              rcases hvb with hvb | ⟨hvb, rfl, rfl⟩
              all_goals
                go_wp2_with fail
                refine HL.out.mono ?_
                rintro r w12 ⟨⟨z, hz, rfl⟩, rfl⟩
                clear HL
                go_wp2_with fail
                go_ret
                exact ⟨rfl, HGr.out⟩
end Lr
end Go.Proofs.Ytlgomaohfhgkpaa
