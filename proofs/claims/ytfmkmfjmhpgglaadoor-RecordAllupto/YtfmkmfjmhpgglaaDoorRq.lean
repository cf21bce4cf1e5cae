/- Layer 8 (record): the document's All. -/
import Derived.Test.YtfmkmfjmhpgglaaDoorRp
namespace Go.Proofs.YtfmkmfjmhpgglaaDoor
open Go.RowKit
namespace Rc
open Cr
theorem own_shape {w : World} {base : Nat} {e : TypeId} {size : Nat} {v : Value} {n : Nat} {xs : List Value} (h : w.ownsRow base e size v n xs) : ∃ a c, v = .slice a n c := by
  rcases h.2 with ⟨rfl, rfl⟩ | ⟨g, cap, cur, rfl, _⟩
  · exact ⟨_, _, rfl⟩
  · exact ⟨_, _, rfl⟩
theorem wpList_append_rec {w : World} {ops : Array Oper} {rest : List Oper} {o : Oper} {a : Act} {Q : Exit → Act → World → Prop}
    (hg : o.guard = none) (s x : Operand) (hop : o.op = .call { callee := .builtin .append, args := #[s, x], argTypes := #[34, 34] })
    (base : Nat) (v : Value) (k : Nat) (xs : List Value) (hs : a.eval s = v) (hown : w.ownsRow base 24 5 v k xs) (g : Nat) (r : Rec) (hx : a.eval x = .slice (some ⟨g, 0, none⟩) 1 1) (hh : w.heap[g]? = some (.cells (vals1 r).toArray 24))
    (b1 : k ≤ 1000000000000) (b3 : base ≤ w.heap.size)
    (hK : ∀ v' w', w'.ownsRow base 24 5 v' (k + 1) (xs ++ vals1 r) → w.grownBy w' v.ownBlock → wpList Tryd.prog ops Q rest (a.put o.dst v') w') :
    wpList Tryd.prog ops Q (o :: rest) a w := by
  obtain ⟨i0, hi, hz0, hz1, hz2⟩ := info_parts infoR
  refine wpList_append_own w hg s x 34 hop base 24 i0 _ 5 40 Tryd.underlying34 hi hz0 hz1 hz2 rfl (by decide) v k xs hs hown ⟨g, 0, none⟩ 1 1 (vals1 r) hx rfl (fun j u hu => by
    rw [addr_add', Nat.zero_add]
    exact cell_at hh (by simpa using hu)) (fun u hu => by simp at hu; rcases hu with rfl | rfl | rfl | rfl | rfl <;> rfl) (by unfold maxLen; omega) (by omega) b3 (fun v' w' r1 r2 _ => hK v' w' r1 r2)
set_option maxHeartbeats 1600000 in
set_option maxRecDepth 100000 in
theorem kAll_ok {w : World} (ao : Option Addr) (cap : Nat) (b : List Nat) {N : Nat} (hN1 : ∀ k, k < N → Ok b k) (hN2 : ¬ Ok b N) (hN : N ≤ 1000000000000) (hx : RdB w ao b) (hc : b.length ≤ cap) (hcap : ao = none → cap = 0) (hl : b.length ≤ 140737488355328) :
    Calls Tryd.prog 13 #[.slice ao b.length cap] w (TakenPost w b N) := by
  have HX := hide hx
  clear hx
  go_enter Tryd.func13, Tryd.ntmps13
  go_wp2_with fail
  go_loopw [3, 4] (fun v at_ wr => ∃ k : Nat, k ≤ N ∧ at_ = num (37 * k : Nat) ∧ w.grownBy wr none ∧ wr.ownsRow w.heap.size 24 5 v k (valsR (recs b k))) (fun _ at_ _ => 37 * (N + 1) - (intOf at_).toNat)
  case atStart => exact ⟨0, Nat.zero_le _, rfl, grownBy_refl _ _, World.ownsRow_nil _ _ _ _⟩
  case round =>
    obtain ⟨k, hkN, rfl, hgr, hown⟩ := hrel
    have hkl : 37 * k ≤ b.length := by
      cases k with
      | zero => omega
      | succ j => exact (hN1 j (by omega)).len
    obtain ⟨va, vc, rfl⟩ := own_shape hown
    obtain ⟨n, hn⟩ : ∃ n, n = 37 * k := ⟨_, rfl⟩
    have hd := rd_drop (HX.out.more hgr) hc hcap n (by omega)
    have hP := kParse_any (w := wr) _ (cap - n) (b.drop n) hd (by simp; omega)
    rw [List.length_drop] at hP
    have n1 : (n : Int) ≤ (b.length : Int) := by omega
    have n2 : (b.length : Int) ≤ (cap : Int) := by omega
    have n3 : (n : Int) ≤ 140737488355328 := by omega
    obtain ⟨R, hR⟩ : ∃ R, R = recK b k := ⟨_, rfl⟩
    obtain ⟨E, hE⟩ : ∃ E, E = parE (b.drop n) := ⟨_, rfl⟩
    have HRk : Hid (parR (b.drop n) = R ∧ parE (b.drop n) = E ∧ recK b k = R) := ⟨by rw [hR, hn]; rfl, hE.symm, hR.symm⟩
    have HOk : Hid (Ok b k ↔ E = 0 ∧ (k = 0 ∨ (recK b (k - 1)).seq < R.seq)) := by rw [Hid, Ok, ← hn, HRk.out.2.1, HRk.out.2.2]
    have HOw := hide hown
    have HGr := hide hgr
    have HN := hide hn
    rw [← hn]
    clear hR hE hown hgr hd hn
    by_cases hcn : cap = n
    · skip
      rw [if_pos hcn] at hP
      have hct : (cap = n) = True := by simp [hcn]
      clear hcn
      have HP := hide hP
      clear hP
      go_wp2_with fail
      refine HP.out.mono fun e w2 hp2 => ?_
      rw [ParsePost, HRk.out.1, HRk.out.2.1] at hp2
      obtain ⟨rfl, hg2⟩ := hp2
      obtain ⟨V, hV⟩ : ∃ V, V = w2.alloc (.cells #[.int .i64 R.kind, .int .u64 R.seq, .int .u64 R.a, .int .u64 R.b, .int .u64 R.c] 24) := ⟨_, rfl⟩
      have hgV : w2.grownBy V none := by rw [hV]; exact World.grownBy_alloc w2 _ none
      have hbV : V.heap[w2.heap.size]? = some (recL R) := by rw [hV]; exact heap_alloc_new w2 _
      have hg2V := grownBy_trans hg2 hgV
      have HsV : Hid (V.heap.size = w2.heap.size + 1) := by rw [Hid, hV]; simp
      have HOV := hide (own_more HOw.out hg2V)
      have HGV := hide (grownBy_trans HGr.out hg2V)
      have HbV := hide hbV
      have HV := hide hV
      have hrow := rdV_own HOV.out
      clear hg2 hV hgV hbV hg2V HP HOw HGr
      rcases k with _ | j
      · have e0 : ((0 : Nat) : Int) = 0 := rfl
        by_cases hE : E = 0
        · have e1 : (E != 0) = false := by simp [hE]
          have hok : Ok b 0 := HOk.out.2 ⟨hE, .inl rfl⟩
          have hlt : 0 < N := by
            rcases Nat.lt_or_ge 0 N with h | h
            · exact h
            · have h0 : N = 0 := by omega
              rw [h0] at hN2
              exact absurd hok hN2
          obtain ⟨V5, hV5⟩ : ∃ V5, V5 = (V.alloc (.cells #[num R.kind, q64 R.seq, q64 R.a, q64 R.b, q64 R.c] 24)).drew := ⟨_, rfl⟩
          have hgV5 : V.grownBy V5 none := by rw [hV5]; exact grownBy_drew (World.grownBy_alloc V _ none)
          have HT5 : Hid (V5.heap[w2.heap.size + 1]? = some (.cells (vals1 R).toArray 24)) := by rw [Hid, hV5, ← HsV.out]; exact heap_alloc_new V _
          have HO5 := hide (own_more HOV.out hgV5)
          have HG5 := hide (grownBy_trans HGV.out hgV5)
          have hsz5 := HG5.out.size
          have hVd : V.drew.heap.size = w2.heap.size + 1 := HsV.out
          have HV5 := hide hV5
          obtain ⟨z0, z1, z2, z3, z4⟩ := cells5 (w := V.drew) HbV.out
          have HLT := hide hlt
          clear hV5 hgV5 hlt hN1
          go_wp2_with (rw [← HV.out])
          go_region
          go_wp2_with (first | (rw [← HV5.out]) | (rw [hVd]) | (at_builtin; refine wpList_append_rec rfl (.tmp 34) (.tmp 36) rfl w.heap.size _ 0 (valsR (recs b 0)) rfl HO5.out (w2.heap.size + 1) R rfl HT5.out (by omega) hsz5 ?_; intro v6 w6 hown6 hg6; have HG6 := hide (own_step HG5.out HO5.out hg6); have HO6 : Hid (w6.ownsRow w.heap.size 24 5 v6 (0 + 1) (valsR (recs b (0 + 1)))) := (by rw [Hid, recs_succ, valsR_app, valsR_one, HRk.out.2.2]; exact hown6); clear hown6 hg6))
          go_roundw
          case rel => exact ⟨0 + 1, HLT.out, by have := HN.out; simp; omega, HG6.out, HO6.out⟩
          case measure => have := HN.out; have := HLT.out; simp [intOf]; omega
        · have e1 : (E != 0) = true := by simp [hE]
          have hnok : ¬ Ok b 0 := fun h => hE (HOk.out.1 h).1
          have hke : 0 = N := by
            rcases Nat.lt_or_ge 0 N with h | h
            · exact absurd (hN1 0 h) hnok
            · omega
          have HO5 := hide (own_more HOV.out (grownBy_drew (grownBy_refl V none)))
          have HG5 := hide (grownBy_drew HGV.out)
          have HKe := hide hke
          obtain ⟨z0, z1, z2, z3, z4⟩ := cells5 (w := V.drew) HbV.out
          clear hke hN1
          go_wp2_with (rw [← HV.out])
          go_region
          go_wp2
          go_ret
          exact ⟨_, rfl, HG5.out, by rw [← HKe.out]; exact HO5.out⟩
      · obtain ⟨ra, rc, re, _, rr0⟩ := hrow
        obtain ⟨rg, ro, rfl', rr⟩ := rr0.resolve_left (fun e => by have := congrArg List.length e; simp [recs] at this)
        injection re with re1 re2 re3
        subst re1
        subst rfl'
        have hfive := rr j (by rw [recs_len]; omega)
        have hnj : nthR (recs b (j + 1)) j = recK b j := by simp [nthR, recs]
        rw [hnj] at hfive
        have cl : V.drew.cell? ⟨rg, ro + j * 5 + 1, none⟩ = some (q64 (recK b j).seq) := hfive.c1
        have HOk2 : Hid (Ok b (j + 1) ↔ E = 0 ∧ (recK b j).seq < R.seq) := by rw [Hid, HOk.out]; simp
        generalize (recK b j).seq = last at cl HOk2
        clear rr rr0 hfive hnj re2 re3
        by_cases hE : E = 0
        · have e1 : (E != 0) = false := by simp [hE]
          by_cases hs : last < R.seq
          · have e2 : ¬ (R.seq : Int) ≤ (last : Int) := by omega
            have e3 : decide ((R.seq : Int) ≤ (last : Int)) = false := by simp; omega
            have hok : Ok b (j + 1) := HOk2.out.2 ⟨hE, hs⟩
            have hlt : (j + 1) < N := by
              rcases Nat.lt_or_ge (j + 1) N with h | h
              · exact h
              · obtain rfl : (j + 1) = N := by omega
                exact absurd hok hN2
            obtain ⟨V5, hV5⟩ : ∃ V5, V5 = (V.alloc (.cells #[num R.kind, q64 R.seq, q64 R.a, q64 R.b, q64 R.c] 24)).drew := ⟨_, rfl⟩
            have hgV5 : V.grownBy V5 none := by rw [hV5]; exact grownBy_drew (World.grownBy_alloc V _ none)
            have HT5 : Hid (V5.heap[w2.heap.size + 1]? = some (.cells (vals1 R).toArray 24)) := by rw [Hid, hV5, ← HsV.out]; exact heap_alloc_new V _
            have HO5 := hide (own_more HOV.out hgV5)
            have HG5 := hide (grownBy_trans HGV.out hgV5)
            have hsz5 := HG5.out.size
            have hVd : V.drew.heap.size = w2.heap.size + 1 := HsV.out
            have HV5 := hide hV5
            obtain ⟨z0, z1, z2, z3, z4⟩ := cells5 (w := V.drew) HbV.out
            have HLT := hide hlt
            clear hV5 hgV5 hlt hN1
            go_wp2_with (rw [← HV.out])
            go_region
            go_wp2_with (first | (rw [← HV5.out]) | (rw [hVd]) | (at_builtin; refine wpList_append_rec rfl (.tmp 34) (.tmp 36) rfl w.heap.size _ (j + 1) (valsR (recs b (j + 1))) rfl HO5.out (w2.heap.size + 1) R rfl HT5.out (by omega) hsz5 ?_; intro v6 w6 hown6 hg6; have HG6 := hide (own_step HG5.out HO5.out hg6); have HO6 : Hid (w6.ownsRow w.heap.size 24 5 v6 (j + 1 + 1) (valsR (recs b (j + 1 + 1)))) := (by rw [Hid, recs_succ, valsR_app, valsR_one, HRk.out.2.2]; exact hown6); clear hown6 hg6))
            go_roundw
            case rel => exact ⟨j + 1 + 1, HLT.out, by have := HN.out; simp; omega, HG6.out, HO6.out⟩
            case measure => have := HN.out; have := HLT.out; simp [intOf]; omega
          · have e2 : (R.seq : Int) ≤ (last : Int) := by omega
            have e3 : decide ((R.seq : Int) ≤ (last : Int)) = true := by simp; omega
            have hnok : ¬ Ok b (j + 1) := fun h => hs (HOk2.out.1 h).2
            have hke : j + 1 = N := by
              rcases Nat.lt_or_ge (j + 1) N with h | h
              · exact absurd (hN1 (j + 1) h) hnok
              · omega
            have HO5 := hide (own_more HOV.out (grownBy_drew (grownBy_refl V none)))
            have HG5 := hide (grownBy_drew HGV.out)
            have HKe := hide hke
            obtain ⟨z0, z1, z2, z3, z4⟩ := cells5 (w := V.drew) HbV.out
            clear hke hN1
            go_wp2_with (rw [← HV.out])
            go_region
            go_wp2
            go_ret
            exact ⟨_, rfl, HG5.out, by rw [← HKe.out]; exact HO5.out⟩
        · have e1 : (E != 0) = true := by simp [hE]
          have hnok : ¬ Ok b (j + 1) := fun h => hE (HOk2.out.1 h).1
          have hke : j + 1 = N := by
            rcases Nat.lt_or_ge (j + 1) N with h | h
            · exact absurd (hN1 (j + 1) h) hnok
            · omega
          have HO5 := hide (own_more HOV.out (grownBy_drew (grownBy_refl V none)))
          have HG5 := hide (grownBy_drew HGV.out)
          have HKe := hide hke
          obtain ⟨z0, z1, z2, z3, z4⟩ := cells5 (w := V.drew) HbV.out
          clear hke hN1
          go_wp2_with (rw [← HV.out])
          go_region
          go_wp2
          go_ret
          exact ⟨_, rfl, HG5.out, by rw [← HKe.out]; exact HO5.out⟩
    · skip
      rw [if_neg hcn] at hP
      have HP := hide hP
      clear hP
      go_wp2_with fail
      refine HP.out.mono fun e w2 hp2 => ?_
      rw [ParsePost, HRk.out.1, HRk.out.2.1] at hp2
      obtain ⟨rfl, hg2⟩ := hp2
      obtain ⟨V, hV⟩ : ∃ V, V = w2.alloc (.cells #[.int .i64 R.kind, .int .u64 R.seq, .int .u64 R.a, .int .u64 R.b, .int .u64 R.c] 24) := ⟨_, rfl⟩
      have hgV : w2.grownBy V none := by rw [hV]; exact World.grownBy_alloc w2 _ none
      have hbV : V.heap[w2.heap.size]? = some (recL R) := by rw [hV]; exact heap_alloc_new w2 _
      have hg2V := grownBy_trans hg2 hgV
      have HsV : Hid (V.heap.size = w2.heap.size + 1) := by rw [Hid, hV]; simp
      have HOV := hide (own_more HOw.out hg2V)
      have HGV := hide (grownBy_trans HGr.out hg2V)
      have HbV := hide hbV
      have HV := hide hV
      have hrow := rdV_own HOV.out
      clear hg2 hV hgV hbV hg2V HP HOw HGr
      rcases k with _ | j
      · have e0 : ((0 : Nat) : Int) = 0 := rfl
        by_cases hE : E = 0
        · have e1 : (E != 0) = false := by simp [hE]
          have hok : Ok b 0 := HOk.out.2 ⟨hE, .inl rfl⟩
          have hlt : 0 < N := by
            rcases Nat.lt_or_ge 0 N with h | h
            · exact h
            · have h0 : N = 0 := by omega
              rw [h0] at hN2
              exact absurd hok hN2
          obtain ⟨V5, hV5⟩ : ∃ V5, V5 = (V.alloc (.cells #[num R.kind, q64 R.seq, q64 R.a, q64 R.b, q64 R.c] 24)).drew := ⟨_, rfl⟩
          have hgV5 : V.grownBy V5 none := by rw [hV5]; exact grownBy_drew (World.grownBy_alloc V _ none)
          have HT5 : Hid (V5.heap[w2.heap.size + 1]? = some (.cells (vals1 R).toArray 24)) := by rw [Hid, hV5, ← HsV.out]; exact heap_alloc_new V _
          have HO5 := hide (own_more HOV.out hgV5)
          have HG5 := hide (grownBy_trans HGV.out hgV5)
          have hsz5 := HG5.out.size
          have hVd : V.drew.heap.size = w2.heap.size + 1 := HsV.out
          have HV5 := hide hV5
          obtain ⟨z0, z1, z2, z3, z4⟩ := cells5 (w := V.drew) HbV.out
          have HLT := hide hlt
          clear hV5 hgV5 hlt hN1
          go_wp2_with (rw [← HV.out])
          go_region
          go_wp2_with (first | (rw [← HV5.out]) | (rw [hVd]) | (at_builtin; refine wpList_append_rec rfl (.tmp 34) (.tmp 36) rfl w.heap.size _ 0 (valsR (recs b 0)) rfl HO5.out (w2.heap.size + 1) R rfl HT5.out (by omega) hsz5 ?_; intro v6 w6 hown6 hg6; have HG6 := hide (own_step HG5.out HO5.out hg6); have HO6 : Hid (w6.ownsRow w.heap.size 24 5 v6 (0 + 1) (valsR (recs b (0 + 1)))) := (by rw [Hid, recs_succ, valsR_app, valsR_one, HRk.out.2.2]; exact hown6); clear hown6 hg6))
          go_roundw
          case rel => exact ⟨0 + 1, HLT.out, by have := HN.out; simp; omega, HG6.out, HO6.out⟩
          case measure => have := HN.out; have := HLT.out; simp [intOf]; omega
        · have e1 : (E != 0) = true := by simp [hE]
          have hnok : ¬ Ok b 0 := fun h => hE (HOk.out.1 h).1
          have hke : 0 = N := by
            rcases Nat.lt_or_ge 0 N with h | h
            · exact absurd (hN1 0 h) hnok
            · omega
          have HO5 := hide (own_more HOV.out (grownBy_drew (grownBy_refl V none)))
          have HG5 := hide (grownBy_drew HGV.out)
          have HKe := hide hke
          obtain ⟨z0, z1, z2, z3, z4⟩ := cells5 (w := V.drew) HbV.out
          clear hke hN1
          go_wp2_with (rw [← HV.out])
          go_region
          go_wp2
          go_ret
          exact ⟨_, rfl, HG5.out, by rw [← HKe.out]; exact HO5.out⟩
      · obtain ⟨ra, rc, re, _, rr0⟩ := hrow
        obtain ⟨rg, ro, rfl', rr⟩ := rr0.resolve_left (fun e => by have := congrArg List.length e; simp [recs] at this)
        injection re with re1 re2 re3
        subst re1
        subst rfl'
        have hfive := rr j (by rw [recs_len]; omega)
        have hnj : nthR (recs b (j + 1)) j = recK b j := by simp [nthR, recs]
        rw [hnj] at hfive
        have cl : V.drew.cell? ⟨rg, ro + j * 5 + 1, none⟩ = some (q64 (recK b j).seq) := hfive.c1
        have HOk2 : Hid (Ok b (j + 1) ↔ E = 0 ∧ (recK b j).seq < R.seq) := by rw [Hid, HOk.out]; simp
        generalize (recK b j).seq = last at cl HOk2
        clear rr rr0 hfive hnj re2 re3
        by_cases hE : E = 0
        · have e1 : (E != 0) = false := by simp [hE]
          by_cases hs : last < R.seq
          · have e2 : ¬ (R.seq : Int) ≤ (last : Int) := by omega
            have e3 : decide ((R.seq : Int) ≤ (last : Int)) = false := by simp; omega
            have hok : Ok b (j + 1) := HOk2.out.2 ⟨hE, hs⟩
            have hlt : (j + 1) < N := by
              rcases Nat.lt_or_ge (j + 1) N with h | h
              · exact h
              · obtain rfl : (j + 1) = N := by omega
                exact absurd hok hN2
            obtain ⟨V5, hV5⟩ : ∃ V5, V5 = (V.alloc (.cells #[num R.kind, q64 R.seq, q64 R.a, q64 R.b, q64 R.c] 24)).drew := ⟨_, rfl⟩
            have hgV5 : V.grownBy V5 none := by rw [hV5]; exact grownBy_drew (World.grownBy_alloc V _ none)
            have HT5 : Hid (V5.heap[w2.heap.size + 1]? = some (.cells (vals1 R).toArray 24)) := by rw [Hid, hV5, ← HsV.out]; exact heap_alloc_new V _
            have HO5 := hide (own_more HOV.out hgV5)
            have HG5 := hide (grownBy_trans HGV.out hgV5)
            have hsz5 := HG5.out.size
            have hVd : V.drew.heap.size = w2.heap.size + 1 := HsV.out
            have HV5 := hide hV5
            obtain ⟨z0, z1, z2, z3, z4⟩ := cells5 (w := V.drew) HbV.out
            have HLT := hide hlt
            clear hV5 hgV5 hlt hN1
            go_wp2_with (rw [← HV.out])
            go_region
            go_wp2_with (first | (rw [← HV5.out]) | (rw [hVd]) | (at_builtin; refine wpList_append_rec rfl (.tmp 34) (.tmp 36) rfl w.heap.size _ (j + 1) (valsR (recs b (j + 1))) rfl HO5.out (w2.heap.size + 1) R rfl HT5.out (by omega) hsz5 ?_; intro v6 w6 hown6 hg6; have HG6 := hide (own_step HG5.out HO5.out hg6); have HO6 : Hid (w6.ownsRow w.heap.size 24 5 v6 (j + 1 + 1) (valsR (recs b (j + 1 + 1)))) := (by rw [Hid, recs_succ, valsR_app, valsR_one, HRk.out.2.2]; exact hown6); clear hown6 hg6))
            go_roundw
            case rel => exact ⟨j + 1 + 1, HLT.out, by have := HN.out; simp; omega, HG6.out, HO6.out⟩
            case measure => have := HN.out; have := HLT.out; simp [intOf]; omega
          · have e2 : (R.seq : Int) ≤ (last : Int) := by omega
            have e3 : decide ((R.seq : Int) ≤ (last : Int)) = true := by simp; omega
            have hnok : ¬ Ok b (j + 1) := fun h => hs (HOk2.out.1 h).2
            have hke : j + 1 = N := by
              rcases Nat.lt_or_ge (j + 1) N with h | h
              · exact absurd (hN1 (j + 1) h) hnok
              · omega
            have HO5 := hide (own_more HOV.out (grownBy_drew (grownBy_refl V none)))
            have HG5 := hide (grownBy_drew HGV.out)
            have HKe := hide hke
            obtain ⟨z0, z1, z2, z3, z4⟩ := cells5 (w := V.drew) HbV.out
            clear hke hN1
            go_wp2_with (rw [← HV.out])
            go_region
            go_wp2
            go_ret
            exact ⟨_, rfl, HG5.out, by rw [← HKe.out]; exact HO5.out⟩
        · have e1 : (E != 0) = true := by simp [hE]
          have hnok : ¬ Ok b (j + 1) := fun h => hE (HOk2.out.1 h).1
          have hke : j + 1 = N := by
            rcases Nat.lt_or_ge (j + 1) N with h | h
            · exact absurd (hN1 (j + 1) h) hnok
            · omega
          have HO5 := hide (own_more HOV.out (grownBy_drew (grownBy_refl V none)))
          have HG5 := hide (grownBy_drew HGV.out)
          have HKe := hide hke
          obtain ⟨z0, z1, z2, z3, z4⟩ := cells5 (w := V.drew) HbV.out
          clear hke hN1
          go_wp2_with (rw [← HV.out])
          go_region
          go_wp2
          go_ret
          exact ⟨_, rfl, HG5.out, by rw [← HKe.out]; exact HO5.out⟩
end Rc
end Go.Proofs.YtfmkmfjmhpgglaaDoor
