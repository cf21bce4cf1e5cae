/- The document's own places. -/
import Derived.Test.YtiojdoehlooibaaDoorZPe
import Derived.Test.YtiojdoehlooibaaDoorZPp
import Derived.Test.YtiojdoehlooibaaDoorZRfa
import Derived.BigQuiet
import Derived.Test.YtiojdoehlooibaaDoorZPd
import Derived.Deep.RegionHeld3
namespace Go.Proofs.YtiojdoehlooibaaDoor
open Go.RowKit
namespace Gf
theorem grown_by_own {W1 wx w6 : World} {o : Option Nat} (h : W1.grownBy wx none) (hg : wx.grownBy w6 o) (ho : ∀ k, o = some k → W1.heap.size ≤ k) : W1.grownBy w6 none :=
  ⟨hg.os.trans h.os, hg.tape.trans h.tape, hg.output.trans h.output, Nat.le_trans h.size hg.size, fun k hk _ => (hg.block k (by have := h.size; omega) (fun e => by have := ho k e.symm; omega)).trans (h.block k hk (by simp))⟩
theorem grown_below {W1 wx w6 : World} (h : W1.grownBy wx none) (hb : Below W1.heap.size wx w6) : W1.grownBy w6 none :=
  ⟨hb.os.trans h.os, hb.tape.trans h.tape, hb.output.trans h.output, Nat.le_trans h.size hb.size, fun k hk _ => (hb.block k hk).trans (h.block k hk (by simp))⟩
theorem own_kept {w w' : World} {b : Nat} {e : TypeId} {n : Nat} {v : Value} {xs : List Value} (h : w.ownsRow b e 1 v n xs) (hg : w.grownBy w' none) : w'.ownsRow b e 1 v n xs :=
  h.kept hg (by
    cases e : v.ownBlock with
    | none => exact .inl rfl
    | some k => exact .inr (by simp))
theorem Row.one (w : World) (c : Nat) : Row w (w.alloc (.cells #[num (c : Nat)] 3)) (.slice (some ⟨w.heap.size, 0, none⟩) 1 1) [c] :=
  ⟨⟨rfl, .inr ⟨w.heap.size, 1, #[num (c : Nat)], rfl, Nat.le_refl _, heap_alloc_new w _, Nat.le_refl _, by unfold maxLen; omega, rfl, rfl⟩⟩, World.grownBy_alloc _ _ none⟩
theorem RdN.ints {w : World} {ao : Option Addr} {l : List Nat} (h : RdN w ao l) : ∃ b, Rd b w ao (ints l) := by
  rcases h with rfl | ⟨g, off, rfl, hc⟩
  · exact ⟨0, .inl rfl⟩
  · exact ⟨g + 1, .inr ⟨g, off, rfl, by omega, fun i hi => by rw [ints_len] at hi; rw [ints_getD]; exact hc i hi⟩⟩
theorem hnotM (x : Bool) (w : World) : (Op.unary .not (.bool x)).run Tryd.prog w = .ok (.bool (!x)) w := rfl
/-- What places answers. -/
def PlPost (m v N : Nat) (w : World) (R : Option (Nat → Nat → Nat)) (e : Ending) (w' : World) : Prop :=
  w.grownBy w' none ∧ match R with
    | none => e = .returned (.tuple #[.slice none 0 0, .bool false])
    | some M' => ∃ ao cap, e = .returned (.tuple #[.slice ao (plS m N (plq v fun r => M' r v) N).length cap, .bool ((plS m N (plq v fun r => M' r v) N).length == v)]) ∧ RdN w' ao (plS m N (plq v fun r => M' r v) N)
set_option maxHeartbeats 6400000 in
set_option maxRecDepth 4000 in
theorem places_ok {m v N : Nat} (hm : Em m) (hv1 : 1 ≤ v) (hv2 : v ≤ 100) (hN : N ≤ 100000) {w : World} (bytes T : Int) (ao az : Option Addr) (len cg cs : Nat) (S : Nat → Nat) (hS : ∀ e, S e ≤ sz m) (s : List Nat) (hs : RdN w az s) (hsl : 2 * v ≤ s.length) (hsb : s.length ≤ 1000) (hse : ∀ i, i < 2 * v → nth s i = S (i + 1)) :
    Calls Tryd.prog 45 #[codeV m bytes T (.slice ao len cg), .slice az s.length cs, num v, num N] w fun e w' => PlPost m v N w (gss m v v 0 (hnk S)) e w' := by
  have hn := hnotM
  obtain ⟨i0, hi0, hz0, hz1, hz2⟩ := info_parts Tryd.info3
  obtain ⟨i1, hi1, hy0, hy1, hy2⟩ := info_parts Tryd.infoRow
  have hw1 := World.grownBy_alloc w (.cells #[num m, num bytes, num T, .slice ao len cg] 29) none
  obtain ⟨W1, hW1⟩ : ∃ W1, W1 = w.alloc (.cells #[num m, num bytes, num T, .slice ao len cg] 29) := ⟨_, rfl⟩
  have hbox : W1.heap[w.heap.size]? = some (.cells #[num m, num bytes, num T, .slice ao len cg] 29) := by rw [hW1]; exact heap_alloc_new w _
  have hbl := lt_of_heap hbox
  rw [← hW1] at hw1
  obtain ⟨gs, os, rfl, hcs⟩ := (hs.more hw1).resolve_left (fun e => by rw [e] at hsl; simp at hsl; omega)
  have hgs := lt_of_cell (hcs 0 (by omega))
  have HBox : Hid (∀ wr, W1.grownBy wr none → wr.cell? ⟨w.heap.size, 0, none⟩ = some (num m)) := fun wr hg => by
    have hb := hg.block w.heap.size hbl (by simp)
    rw [hbox] at hb
    simp [World.cell?, hb]
  have HCs : Hid (∀ wr, W1.grownBy wr none → ∀ k, k < 2 * v → wr.cell? ⟨gs, os + k, none⟩ = some (num (S (k + 1) : Nat))) := fun wr hg k hk => by
    rw [World.cell?_of_block (w := W1) (a := ⟨gs, os + k, none⟩) (hg.block gs hgs (by simp)), ← hse k hk]
    exact hcs k (by omega)
  have hE : Ent m (hnk S) := fun r c => hS _
  obtain ⟨R, hR⟩ : ∃ R, R = gss m v v 0 (hnk S) := ⟨_, rfl⟩
  have HSol : Hid (∀ wr g cap G C, W1.grownBy wr none → MatG W1.heap.size wr g v (hnk S) G C → Calls Tryd.prog 65 #[num m, .slice (some ⟨g, 0, none⟩) v cap] wr fun e w' => SolPost W1.heap.size wr v R e w') := fun wr g cap G C hg hG => by
    rw [hR]
    exact solve_ok hm hv2 g cap hG hE hg.size
  rw [← hR]
  have HR : Hid (∀ M', R = some M' → ∀ r c, M' r c ≤ sz m) := fun M' h => by
    rw [hR] at h
    rcases gss_spec (n := v) hm v 0 (hnk S) (by omega) hE (fun r j _ hj => absurd hj (Nat.not_lt_zero _)) with ⟨h1, _⟩ | ⟨M2, h1, h2, _⟩
    · rw [h1] at h; cases h
    · rw [h1] at h; cases h; exact h2
  clear hs hcs hbox hse hR hE hS
  go_enter Tryd.func45, Tryd.ntmps45
  go_wp2_with fail
  rw [← hW1]
  clear hW1
  go_loopw [10, 11] (fun va c wr => ∃ (i : Nat) (G C : Nat → Nat), i ≤ v ∧ c = num i ∧ MatA W1.heap.size wr va i v (hnk S) G C ∧ W1.grownBy wr none) (fun _ c _ => v - (intOf c).toNat)
  case atStart => exact ⟨0, fun _ => 0, fun _ => 0, Nat.zero_le _, rfl, MatA.start _ _ _ _ _ _, World.grownBy.refl _ _⟩
  case round =>
    obtain ⟨i, G, C, hi, rfl, hA, hg⟩ := hrel
    by_cases hlt : i < v
    · have b1 : (i : Int) < (v : Int) := by omega
      go_wp2_with fail
      go_loopw [12, 13] (fun vr c wq => ∃ k : Nat, k ≤ v + 1 ∧ c = num k ∧ Row wr wq vr ((List.range k).map fun c => S (i + c + 1))) (fun _ c _ => v + 1 - (intOf c).toNat)
      case atStart => exact ⟨0, Nat.zero_le _, rfl, Row.start _⟩
      case round =>
        obtain ⟨k, hk, rfl, hQ⟩ := hrel
        by_cases hkl : k < v + 1
        · have b2 : (k : Int) ≤ (v : Int) := by omega
          have ck := HCs.out _ (grownBy_trans hg hQ.more) (i + k) (by omega)
          have HT : Hid ((List.range (k + 1)).map (fun c => S (i + c + 1)) = (List.range k).map (fun c => S (i + c + 1)) ++ [S (i + k + 1)]) := by rw [Hid, List.range_succ, List.map_append]; rfl
          have hSl : ((List.range k).map fun c => S (i + c + 1)).length = k := by simp
          generalize (List.range k).map (fun c => S (i + c + 1)) = Z at hQ HT hSl
          generalize S (i + k + 1) = x at ck HT
          have hsz := hQ.more.size
          have hSle : Z.length ≤ 101 := by omega
          have hwr : IntKind.i64.wrap ((i : Int) + (k : Int)) = (i : Int) + (k : Int) := by rw [IntKind.wrap_i64]; omega
          have b6 : (0 : Int) ≤ (i : Int) + (k : Int) := by omega
          have b3 : ((i : Int) + (k : Int)).toNat = i + k := by omega
          have b4 : (i : Int) + (k : Int) < (s.length : Int) := by omega
          have HSl : Hid _ := hSl
          clear hSl
          go_wp2_with (first | (at_builtin; refine wpList_append_own _ rfl _ _ 27 rfl _ 3 i0 (.int .i64 0) 1 8 Tryd.underlying27 hi0 hz0 hz1 hz2 rfl (by decide) _ _ _ rfl (hQ.own.alloc _) ⟨wr.heap.size, 0, none⟩ 1 1 [.int .i64 (x : Nat)] rfl rfl ?c1 ?c2 ?c3 ?c4 ?c5 ?_))
          case c1 => exact cell_one_new _ _ _
          case c2 => intro u hu; simp at hu; subst hu; rfl
          case c3 => unfold maxLen; omega
          case c4 => omega
          case c5 => simp; omega
          intro v' w6 hown hgrow _
          have hA2 := hQ.append hown hgrow
          rw [← HT.out] at hA2
          clear hown hgrow hQ
          go_wp2_with fail
          go_roundw
          case rel => exact ⟨k + 1, by omega, by go_num, hA2⟩
          case measure => simp [intOf]; omega
        · obtain rfl : k = v + 1 := by omega
          have b2 : ¬ ((v + 1 : Nat) : Int) ≤ (v : Int) := by omega
          have HSl : Hid (((List.range (v + 1)).map fun c => S (i + c + 1)).length = v + 1) := by simp [Hid]
          have HSM : Hid (∀ c, c < v + 1 → nth ((List.range (v + 1)).map fun c => S (i + c + 1)) c = hnk S i c) := fun c hc => by
            rw [nth_of (by simpa using hc)]; simp [hnk]
          generalize (List.range (v + 1)).map (fun c => S (i + c + 1)) = Z at hQ HSl HSM
          obtain ⟨g, cap, rfl⟩ : ∃ g cap, u12 = .slice (some ⟨g, 0, none⟩) (v + 1) cap := by
            rcases hQ.own.2 with ⟨_, h0⟩ | ⟨g, cap, cur, h1, _⟩
            · have := HSl.out; omega
            · rw [HSl.out] at h1; exact ⟨g, cap, h1⟩
          have hsz := hQ.more.size
          have hszg := hg.size
          have hAo := own_kept hA.own hQ.more
          have HLen : Hid (((List.range i).map fun r => (Value.slice (some ⟨G r, 0, none⟩) (v + 1) (C r))).length = i) := by simp [Hid]
          go_wp2_with (first | (at_builtin; refine wpList_append_own_at _ rfl _ _ 111 rfl W1.heap.size 27 i1 (.slice none 0 0) 1 24 Tryd.underlying111 hi1 hy0 hy1 hy2 rfl (by decide) _ _ _ rfl (hAo.alloc _) ⟨wr.heap.size, 0, none⟩ 1 1 [.slice (some ⟨g, 0, none⟩) (v + 1) cap] rfl rfl ?e1 ?e2 ?e3 ?e4 ?e5 ?_))
          case e2 => rfl
          case e3 => unfold maxLen; omega
          case e4 => omega
          case e5 => omega
          intro v' w6 hown hgrow _ hat
          obtain ⟨G', C', hA'⟩ := hA.append hszg hQ HSl.out HSM.out hown hgrow hat
          have hg6 : W1.grownBy w6 none := grown_by_own (grownBy_trans (grownBy_trans hg hQ.more) (World.grownBy_alloc _ _ none)) hgrow (fun k hk => (hA.own.lt k hk).1)
          clear hown hgrow hat hQ hA hAo HSl HSM
          go_wp2_with fail
          go_roundw
          case rel => exact ⟨i + 1, G', C', by omega, by go_num, hA', hg6⟩
          case measure => simp [intOf]; omega
    · obtain rfl : i = v := by omega
      have b1 : ¬ (i : Int) < (i : Int) := by omega
      obtain ⟨g, cap, rfl, hG⟩ := hA.matG hv1
      have hk := HBox.out _ hg
      have HS2 : Hid (Calls Tryd.prog 65 #[num m, .slice (some ⟨g, 0, none⟩) i cap] wr fun e w' => SolPost W1.heap.size wr i R e w') := HSol.out _ g cap G C hg hG
      clear HSol HCs hA hG
      go_wp2_with fail
      refine HS2.out.mono ?_
      rintro e w2 ⟨hb, hpost⟩
      have hg2 : W1.grownBy w2 none := grown_below hg hb
      have hgw2 : w.grownBy w2 none := grownBy_trans hw1 hg2
      clear HS2 hb hk hg
      cases R with
      | none =>
        have hp : e = .returned (.tuple #[.slice none 0 0, .bool false]) := hpost
        subst hp
        clear hpost
        go_wp2_with fail
        exact bodyPost_ret (v := .tuple #[.slice none 0 0, .bool false]) (by simp [results, Tryd.f45, go_sem]) rfl ⟨hgw2, rfl⟩
      | some M' =>
        obtain ⟨ax, cx, rfl, hX⟩ : ∃ ao cap, e = .returned (.tuple #[.slice ao i cap, .bool true]) ∧ RdN w2 ao ((List.range i).map fun r => M' r i) := hpost
        have hE := HR.out M' rfl
        have hxl : ((List.range i).map fun r => M' r i).length = i := by simp
        obtain ⟨gx, ox, rfl, hcx⟩ := hX.resolve_left (fun e => by rw [e] at hxl; simp at hxl; omega)
        have HCx : Hid (∀ wr, w2.grownBy wr none → ∀ k, k < i → wr.cell? ⟨gx, ox + k, none⟩ = some (num (M' k i : Nat))) := fun wr hg k hk => by
          have hk' : k < ((List.range i).map fun r => M' r i).length := by rw [hxl]; exact hk
          rw [World.cell?_of_block (w := w2) (a := ⟨gx, ox + k, none⟩) (hg.block gx (lt_of_cell (hcx k hk')) (by simp)), hcx k hk', nth_of hk']
          simp
        obtain ⟨Cq, hCq⟩ : ∃ Cq, Cq = plq i fun r => M' r i := ⟨_, rfl⟩
        have HPl : Hid (∀ j, j < i → Cq.take (j + 2) = Cq.take (j + 1) ++ [M' (i - 1 - j) i]) := fun j hj => by
          rw [hCq, take_snoc' (by rw [plq_len]; omega), nth_plq _ hj]
        have HPn : Hid (Cq.take (i + 1) = Cq) := by rw [Hid, List.take_of_length_le (by rw [hCq, plq_len]; omega)]
        have HP1 : Hid (Cq.take 1 = [1]) := by rw [hCq]; rfl
        have HLl : Hid (Cq.length = i + 1) := by rw [hCq]; exact plq_len _ _
        have HFin : Hid (∀ e w', w.grownBy w' none → (∃ ao cap, e = .returned (.tuple #[.slice ao (plS m N Cq N).length cap, .bool ((plS m N Cq N).length == i)]) ∧ RdN w' ao (plS m N Cq N)) → PlPost m i N w (some M') e w') := fun e w' h1 h2 => by
          rw [hCq] at h2; exact ⟨h1, h2⟩
        have hXE : ∀ k : Nat, xp m (-(k : Int)) ≤ sz m := fun k => (xp_bd hm _).2
        clear hCq hX hcx hxl hE HR
        go_wp2_with fail
        go_loopw [16, 17] (fun vp c wr => ∃ j : Nat, j ≤ i ∧ c = num ((i : Int) - 1 - (j : Int)) ∧ Row w2 wr vp (Cq.take (j + 1))) (fun _ c _ => (intOf c + 1).toNat)
        case atStart => exact ⟨0, Nat.zero_le _, by simp, by rw [HP1.out]; exact Row.one w2 1⟩
        case round =>
          obtain ⟨j, hj, rfl, hQ⟩ := hrel
          by_cases hjl : j < i
          · have d1 : (0 : Int) ≤ (i : Int) - 1 - (j : Int) := by omega
            have d2 : ((i : Int) - 1 - (j : Int)).toNat = i - 1 - j := by omega
            have d3 : (i : Int) - 1 - (j : Int) < (i : Int) := by omega
            have ck := HCx.out _ hQ.more (i - 1 - j) (by omega)
            have HT : Hid (Cq.take (j + 1 + 1) = Cq.take (j + 1) ++ [M' (i - 1 - j) i]) := HPl.out j hjl
            have HSl : Hid ((Cq.take (j + 1)).length = j + 1) := by rw [Hid, List.length_take, HLl.out]; omega
            generalize Cq.take (j + 1) = Z at hQ HT HSl
            generalize M' (i - 1 - j) i = x at ck HT
            have hsz := hQ.more.size
            have hSle : Z.length ≤ 101 := by have := HSl.out; omega
            go_wp2_with (first | (at_builtin; refine wpList_append_own _ rfl _ _ 27 rfl _ 3 i0 (.int .i64 0) 1 8 Tryd.underlying27 hi0 hz0 hz1 hz2 rfl (by decide) _ _ _ rfl (hQ.own.alloc _) ⟨wr.heap.size, 0, none⟩ 1 1 [.int .i64 (x : Nat)] rfl rfl ?p1 ?p2 ?p3 ?p4 ?p5 ?_))
            case p1 => exact cell_one_new _ _ _
            case p2 => intro u hu; simp at hu; subst hu; rfl
            case p3 => unfold maxLen; omega
            case p4 => omega
            case p5 => simp; omega
            intro v' w6 hown hgrow _
            have hA2 := hQ.append hown hgrow
            rw [← HT.out] at hA2
            clear hown hgrow hQ
            go_wp2_with fail
            go_roundw
            case rel => exact ⟨j + 1, by omega, by go_num, hA2⟩
            case measure => simp [intOf]; omega
          · obtain rfl : j = i := by omega
            have d1 : ¬ (0 : Int) ≤ (j : Int) - 1 - (j : Int) := by omega
            rw [HPn.out] at hQ
            obtain ⟨ap, cp, rfl, hRp⟩ := hQ.rdA
            have hgW : W1.grownBy wr none := grownBy_trans hg2 hQ.more
            have HEv : Hid (∀ wq, wr.grownBy wq none → ∀ k : Nat, Calls Tryd.prog 53 #[num m, .slice ap Cq.length cp, num (xp m (-(k : Int)) : Nat)] wq fun e w' => e = .returned (num (ev m (xp m (-(k : Int))) Cq : Nat)) ∧ w' = wq) := fun wq hg k => by
              obtain ⟨bb, hRd⟩ := (hRp.more hg).ints
              have h := rEval_ok hm ap cp (ints Cq) (xp m (-(k : Int)) : Nat) hRd (by rw [ints_len, HLl.out]; omega)
              rw [ints_len, el_of (hXE k)] at h
              exact h
            clear hRp hQ HCx HPl HPn HP1 hgw2 hg2
            have hgww := grownBy_trans hw1 hgW
            go_wp2_with fail
            go_loopw [18, 19] (fun vo c wq => ∃ k : Nat, k ≤ N ∧ c = num k ∧ Row wr wq vo (plS m N Cq k)) (fun _ c _ => N - (intOf c).toNat)
            case atStart => exact ⟨0, Nat.zero_le _, rfl, Row.start _⟩
            case round =>
              obtain ⟨k, hk, rfl, hO⟩ := hrel
              by_cases hkl : k < N
              · have e1 : (k : Int) < (N : Int) := by omega
                have hbx := HBox.out _ (grownBy_trans hgW hO.more)
                have hdr := fun n => grownBy_drewN (World.grownBy.refl wr none) n
                have KE : Hid (∀ n, Calls Tryd.prog 54 #[num m, num (-(k : Int))] (wr.drewN n) fun e w' => e = .returned (num (xp m (-(k : Int)) : Nat)) ∧ w' = wr.drewN n) := fun n => rExp_ok hm _ _
                have KV : Hid (∀ n, Calls Tryd.prog 53 #[num m, .slice ap Cq.length cp, num (xp m (-(k : Int)) : Nat)] (wr.drewN n) fun e w' => e = .returned (num (ev m (xp m (-(k : Int))) Cq : Nat)) ∧ w' = wr.drewN n) := fun n => HEv.out _ (grownBy_trans hO.more (hdr n)) k
                have HSt : Hid (plS m N Cq (k + 1) = plS m N Cq k ++ if ev m (xp m (-(k : Int))) Cq = 0 then [N - 1 - k] else []) := rfl
                have hpl := plS_len m N Cq k
                generalize ev m (xp m (-(k : Int))) Cq = Y at KV HSt
                generalize xp m (-(k : Int)) = X at KE KV
                by_cases hY : Y = 0
                · subst hY
                  have HT : Hid (plS m N Cq (k + 1) = plS m N Cq k ++ [N - 1 - k]) := HSt.out
                  clear HSt
                  generalize plS m N Cq k = Z at hO HT hpl
                  have HNk : Hid (((N - 1 - k : Nat) : Int) = (N : Int) - 1 - (k : Int)) := by rw [Hid]; omega
                  go_wp2_with fail
                  go_quiet (first | (go_at_call 54; exact Calls.quiet_of_same (KE.out _)) | (go_at_call 53; exact Calls.quiet_of_same (KV.out _)))
                  have hO2 := hO.kept (hdr nq)
                  have hsz := hO2.more.size
                  generalize wr.drewN nq = wd at hO2 hsz ⊢
                  clear KE KV hO hdr hbx
                  go_wp2_with (first | (at_builtin; refine wpList_append_own _ rfl _ _ 27 rfl _ 3 i0 (.int .i64 0) 1 8 Tryd.underlying27 hi0 hz0 hz1 hz2 rfl (by decide) _ _ _ rfl (hO2.own.alloc _) ⟨wd.heap.size, 0, none⟩ 1 1 [.int .i64 ((N : Int) - 1 - (k : Int))] rfl rfl ?q1 ?q2 ?q3 ?q4 ?q5 ?_))
                  case q1 => exact cell_one_new _ _ _
                  case q2 => intro u hu; simp at hu; subst hu; rfl
                  case q3 => unfold maxLen; omega
                  case q4 => omega
                  case q5 => simp; omega
                  intro v' w6 hown hgrow _
                  rw [← HNk.out] at hown
                  have hA2 := hO2.append hown hgrow
                  rw [← HT.out] at hA2
                  clear hown hgrow hO2
                  go_wp2_with fail
                  go_roundw
                  case rel => exact ⟨k + 1, by omega, by go_num, hA2⟩
                  case measure => simp [intOf]; omega
                · have HT : Hid (plS m N Cq (k + 1) = plS m N Cq k) := by rw [Hid, HSt.out, if_neg hY, List.append_nil]
                  have hYb : (((Y : Nat) : Int) == 0) = false := by simp; omega
                  clear HSt hY
                  go_wp2_with fail
                  go_quiet (first | (go_at_call 54; exact Calls.quiet_of_same (KE.out _)) | (go_at_call 53; exact Calls.quiet_of_same (KV.out _)))
                  have hO2 := hO.kept (hdr nq)
                  rw [← HT.out] at hO2
                  generalize wr.drewN nq = wd at hO2 ⊢
                  clear KE KV hO hdr hbx
                  go_wp2_with fail
                  go_roundw
                  case rel => exact ⟨k + 1, by omega, by go_num, hO2⟩
                  case measure => simp [intOf]; omega
              · obtain rfl : k = N := by omega
                obtain ⟨ao2, cap2, rfl, hRo⟩ := hO.rdA
                have HPo := HFin.out (.returned (.tuple #[.slice ao2 (plS m k Cq k).length cap2, .bool ((plS m k Cq k).length == j)])) wr (grownBy_trans hgww hO.more) ⟨ao2, cap2, rfl, hRo⟩
                have hbq : (((plS m k Cq k).length : Int) == (j : Int)) = ((plS m k Cq k).length == j) := by
                  rw [Bool.eq_iff_iff]; simp; omega
                have HPq : Hid _ := HPo
                clear HPo hO hRo HFin
                go_wp2_with fail
                exact bodyPost_ret (v := .tuple #[.slice ao2 (plS m k Cq k).length cap2, .bool ((plS m k Cq k).length == j)]) (by simp [results, Tryd.f45, go_sem]) rfl HPq.out
end Gf
end Go.Proofs.YtiojdoehlooibaaDoor

/- The document's own Decode. -/
namespace Go.Proofs.YtiojdoehlooibaaDoor
open Go.RowKit
namespace Gf
/-- A row in a block, from its first cell on. -/
def Rz (w : World) (g : Nat) (S : List Nat) : Prop := ∀ i, i < S.length → w.cell? ⟨g, i, none⟩ = some (num (nth S i : Nat))
theorem Rz.more {w w' : World} {g : Nat} {S : List Nat} (h : Rz w g S) (hg : w.grownBy w' none) : Rz w' g S := fun i hi => by
  rw [World.cell?_of_block (w := w) (a := ⟨g, i, none⟩) (hg.block g (lt_of_cell (h i hi)) (by simp))]
  exact h i hi
theorem Rz.rdN {w : World} {g : Nat} {S : List Nat} (h : Rz w g S) : RdN w (some ⟨g, 0, none⟩) S := .inr ⟨g, 0, rfl, fun i hi => by rw [Nat.zero_add]; exact h i hi⟩
theorem Row.rdC {w0 wr : World} {v : Value} {S : List Nat} (h : Row w0 wr v S) (hS : 1 ≤ S.length) : ∃ g cap, v = .slice (some ⟨g, 0, none⟩) S.length cap ∧ S.length ≤ cap ∧ Rz wr g S := by
  rcases h.own.2 with ⟨rfl, hn⟩ | ⟨g, cap, cur, rfl, hg, hh, hle, _, hcs, ht⟩
  · omega
  · refine ⟨g, cap, rfl, hle, fun i hi => ?_⟩
    rw [Nat.mul_one] at ht
    have hh' : wr.heap[g]? = some (.cells cur.toList.toArray 3) := by simpa using hh
    rw [cell_row hh', take_cell ht i hi]
theorem OwnN.rz {w wr : World} {g : Nat} {S : List Nat} {T : List Value} (h : OwnN w wr g S T) : Rz wr g S := fun _ hi => h.cell hi
/-- What Decode answers. -/
def SDecPost (m t bytes r : Nat) (w : World) (W : List Nat) (e : Ending) (w' : World) : Prop := w.grownBy w' none ∧
  ((∃ V gx gy, Near m t W V ∧ e = .returned (.tuple #[.slice (some ⟨gx, 0, none⟩) bytes bytes, .slice (some ⟨gy, 0, none⟩) ((r + 7) / 8) ((r + 7) / 8), num (wt (xl W V) : Nat), num 0]) ∧ w'.heap[gx]? = some (.cells (valsB (bytesS (V.take (8 * bytes)))).toArray 5) ∧ w'.heap[gy]? = some (.cells (valsB (bytesS (V.drop (8 * bytes)))).toArray 5)) ∨
   ((∀ V, ¬ Near m t W V) ∧ e = .returned (.tuple #[.slice none 0 0, .slice none 0 0, num 0, num 20])))
theorem sdec_fin {m t bytes r n : Nat} {w wf wA w5 w6 : World} {W V : List Nat} (hw : w.grownBy wf none) (hA : wf.grownBy wA none) (h1 : PkRel wA w5 (bytesS (V.take (8 * bytes)))) (h2 : PkRel w5 w6 (bytesS (V.drop (8 * bytes)))) (hN : Near m t W V) (hn : wt (xl W V) = n) :
    SDecPost m t bytes r w W (.returned (.tuple #[.slice (some ⟨wA.heap.size, 0, none⟩) bytes bytes, .slice (some ⟨w5.heap.size, 0, none⟩) ((r + 7) / 8) ((r + 7) / 8), num (n : Nat), num 0])) w6 :=
  ⟨grownBy_trans (grownBy_trans (grownBy_trans hw hA) h1.grown) h2.grown, .inl ⟨V, _, _, hN, by rw [hn], by
    rw [h2.grown.block _ (lt_of_heap h1.at_) (by simp)]; exact h1.at_, h2.at_⟩⟩
theorem sdec_no {m t bytes r : Nat} {w w6 : World} {W : List Nat} (hw : w.grownBy w6 none) (hN : ∀ V, ¬ Near m t W V) : SDecPost m t bytes r w W (.returned (.tuple #[.slice none 0 0, .slice none 0 0, num 0, num 20])) w6 := ⟨hw, .inr ⟨hN, rfl⟩⟩
theorem sbytes_at {wA : World} {g off cap n : Nat} {S : List Nat} (hx : ∀ i, i < S.length → wA.cell? ⟨g, off + i, none⟩ = some (num (nth S i : Nat))) (hl : S.length = n) (hn : n ≤ 100000) :
    Calls Tryd.prog 33 #[.slice (some ⟨g, off, none⟩) n cap] wA fun e w' => e = .returned (.slice (some ⟨wA.heap.size, 0, none⟩) ((n + 7) / 8) ((n + 7) / 8)) ∧ PkRel wA w' (bytesS S) := by
  obtain ⟨b, hb⟩ := RdN.ints (w := wA) (ao := some ⟨g, off, none⟩) (l := S) (.inr ⟨g, off, rfl, hx⟩)
  have h := sbytes_ok (some ⟨g, off, none⟩) cap S hb (by omega)
  rw [hl] at h
  exact h
theorem dk_keep {wf wA w5 : World} {g : Nat} {v : Value} {R : List Nat} (h : wf.grownBy wA none ∧ wA.cell? ⟨g, 1, none⟩ = some v) (hp : PkRel wA w5 R) : wf.grownBy w5 none ∧ w5.cell? ⟨g, 1, none⟩ = some v :=
  ⟨grownBy_trans h.1 hp.grown, by
    rw [World.cell?_of_block (w := wA) (a := ⟨g, 1, none⟩) (hp.grown.block g (lt_of_cell h.2) (by simp))]; exact h.2⟩
/-- What is found, or not yet, when v bits are asked for next. -/
def DecIn (m t N gl cl v : Nat) (W : List Nat) (wq : World) (vl cf vo : Value) : Prop :=
  (vl = .slice (some ⟨gl, 0, none⟩) N cl ∧ cf = num 0 ∧ vo = .bool false ∧ ∀ V, Near m t W V → wt (xl W V) ≤ v) ∨
  (∃ V g c, vl = .slice (some ⟨g, 0, none⟩) N c ∧ N ≤ c ∧ Rz wq g V ∧ Near m t W V ∧ V.length = N ∧ cf = num (wt (xl W V) : Nat) ∧ vo = .bool true)
/-- One more is left out: none is so many bits away. -/
theorem near_less {m t v : Nat} {W : List Nat} (h : ∀ V, Near m t W V → wt (xl W V) ≤ v) (h2 : ∀ V, Near m t W V → wt (xl W V) ≠ v) : ∀ V, Near m t W V → wt (xl W V) ≤ v - 1 := fun V hV => by
  have := h V hV
  have := h2 V hV
  omega
set_option maxHeartbeats 6400000 in
set_option maxRecDepth 4000 in
theorem sDecode_ok {m bytes t : Nat} (hm : Em m) {w : World} (ao ad ap : Option Addr) (cg cd cp : Nat) (ds ps : List Nat) (hG : RdN w ao (gH m t)) (hd : RdB w ad ds) (hp : RdB w ap ps) (hds : ds.length = bytes) (hps : ps.length = pS m t) (ht1 : 1 ≤ t) (ht2 : t ≤ 8) (hb1 : 1 ≤ bytes) (hb2 : bytes ≤ 1000) (h2 : 2 ≤ (gH m t).length) (hr : rS m t ≤ 500) (hfit : 8 * bytes + rS m t ≤ sz m) :
    Calls Tryd.prog 22 #[codeV m bytes t (.slice ao (gH m t).length cg), .slice ad bytes cd, .slice ap (pS m t) cp] w fun e w' => SDecPost m t bytes (rS m t) w (wrdS (rS m t) ds ps) e w' := by
  have hn := hnotM
  obtain ⟨i0, hi0, hz0, hz1, hz2⟩ := info_parts Tryd.info3
  have hGb := gH_bits hm t
  have hGl : (gH m t).length = rS m t + 1 := by
    have := gH_len m t
    have : rS m t = (genS m t).length - 1 := rfl
    omega
  have hpe : pS m t = (rS m t + 7) / 8 := rfl
  have HNl : Hid (∀ l, Bits l → rS m t ≤ l.length → (noLeftB (gH m t) l = true ↔ IsW m t l.reverse)) := fun l hb hl => by
    rw [noLeftB_iff, noLeft_iff hm hb hl]
  obtain ⟨r, hre⟩ : ∃ r, r = rS m t := ⟨_, rfl⟩
  obtain ⟨G, hGe⟩ : ∃ G, G = gH m t := ⟨_, rfl⟩
  obtain ⟨pl, hpe2⟩ : ∃ pl, pl = pS m t := ⟨_, rfl⟩
  rw [← hre] at hGl hpe HNl hr hfit ⊢
  rw [← hGe] at hG hGb hGl HNl h2 ⊢
  rw [← hpe2] at hps hpe ⊢
  clear hre hGe hpe2
  have hr8 : r ≤ 8 * ps.length := by omega
  have hWl := wrdS_len (r := r) (ds := ds) (ps := ps) hr8
  have hWb := bits_wrdS r ds ps
  rw [hds] at hWl
  have hw1 := World.grownBy_alloc w (.cells #[num m, num bytes, num t, .slice ao G.length cg] 29) none
  obtain ⟨W1, hW1⟩ : ∃ W1, W1 = w.alloc (.cells #[num m, num bytes, num t, .slice ao G.length cg] 29) := ⟨_, rfl⟩
  have hbox : W1.heap[w.heap.size]? = some (.cells #[num m, num bytes, num t, .slice ao G.length cg] 29) := by rw [hW1]; exact heap_alloc_new w _
  have hbl := lt_of_heap hbox
  rw [← hW1] at hw1
  have HBox : Hid (∀ wr, W1.grownBy wr none → wr.cell? ⟨w.heap.size, 0, none⟩ = some (num m) ∧ wr.cell? ⟨w.heap.size, 1, none⟩ = some (num bytes) ∧ wr.cell? ⟨w.heap.size, 2, none⟩ = some (num t) ∧ wr.cell? ⟨w.heap.size, 3, none⟩ = some (.slice ao G.length cg)) := fun wr hg => by
    have hb := hg.block w.heap.size hbl (by simp)
    rw [hbox] at hb
    simp [World.cell?, hb]
  have HPar : Hid (∀ wr, Calls Tryd.prog 16 #[codeV m bytes t (.slice ao G.length cg)] wr fun e w' => e = .returned (num (pl : Nat)) ∧ wr.grownBy w' none) := fun wr => by
    have h := sParity_ok m bytes t ao G.length cg (by omega) wr
    rwa [show (G.length + 6) / 8 = pl by omega] at h
  have HWord : Hid (∀ wr, W1.grownBy wr none → Calls Tryd.prog 42 #[codeV m bytes t (.slice ao G.length cg), .slice ad bytes cd, .slice ap pl cp] wr fun e w' => ∃ v, e = .returned v ∧ ∃ W2, wr.grownBy W2 none ∧ Row W2 w' v (wrdS r ds ps)) := fun wr hg => by
    have h := sword_ok (w := wr) m bytes t ao ad ap G.length cg cd cp ds ps (hd.more (grownBy_trans hw1 hg)) (hp.more (grownBy_trans hw1 hg)) h2 (by omega) (by omega) (by omega) (by omega) (by omega)
    rw [hds, hps, show G.length - 1 = r by omega] at h
    exact h
  have HG : Hid (∀ wr, W1.grownBy wr none → RdN wr ao G) := fun wr hg => hG.more (grownBy_trans hw1 hg)
  obtain ⟨W, hWe⟩ : ∃ W, W = wrdS r ds ps := ⟨_, rfl⟩
  rw [← hWe] at hWl hWb HWord ⊢
  obtain ⟨N, hNe⟩ : ∃ N, N = 8 * bytes + r := ⟨_, rfl⟩
  rw [← hNe] at hWl hfit
  have HNe : Hid (N = 8 * bytes + r) := hNe
  have hN1 : 8 * bytes < N := by omega
  have hN2 : N ≤ 10000 := by omega
  have hN3 : N ≤ 8 * bytes + 500 := by omega
  have hG1000 : G.length ≤ 1000 := by omega
  have HWl : Hid (W.length = N) := hWl
  have HWh : Hid (∀ wr, W1.grownBy wr none → ∀ g c l, Rz wr g l → Bits l → l.length = N → Calls Tryd.prog 43 #[codeV m bytes t (.slice ao G.length cg), .slice (some ⟨g, 0, none⟩) N c] wr fun e w' => e = .returned (.bool (noLeftB G l)) ∧ wr.grownBy w' none) := fun wr hg g c l hz hb hl => by
    have h := sWhole_ok (w := wr) m bytes t ao (some ⟨g, 0, none⟩) cg c G l (HG.out wr hg) hz.rdN hb hGb h2 (by omega) (by omega)
    rwa [hl] at h
  clear hWe hbox hd hp hds hps hG hNe hGl hpe hWl
  go_enter Tryd.func22, Tryd.ntmps22
  go_wp2_with fail
  rw [← hW1]
  refine (HPar.out W1).mono ?_
  rintro e w2 ⟨rfl, hg2⟩
  obtain ⟨k0, k1, k2, k3⟩ := HBox.out _ hg2
  have HW2 : Hid (Calls Tryd.prog 42 #[codeV m bytes t (.slice ao G.length cg), .slice ad bytes cd, .slice ap pl cp] w2 fun e w' => ∃ v, e = .returned v ∧ ∃ W2, w2.grownBy W2 none ∧ Row W2 w' v W) := HWord.out _ hg2
  clear HWord HPar hW1
  go_wp2_with fail
  refine HW2.out.mono ?_
  rintro e w3 ⟨vl, rfl, W2, hgW2, hRow⟩
  have hg3 : W1.grownBy w3 none := grownBy_trans (grownBy_trans hg2 hgW2) hRow.more
  obtain ⟨gl, cl, hvl, hcl, hRz⟩ := hRow.rdC (by rw [HWl.out]; omega)
  rw [HWl.out] at hvl hcl
  subst hvl
  clear HW2 hRow hgW2 k0 k1 k2 k3 hg2
  obtain ⟨k0, k1, k2, k3⟩ := HBox.out _ hg3
  have HWh3 : Hid (Calls Tryd.prog 43 #[codeV m bytes t (.slice ao G.length cg), .slice (some ⟨gl, 0, none⟩) N cl] w3 fun e w' => e = .returned (.bool (noLeftB G W)) ∧ w3.grownBy w' none) := HWh.out _ hg3 gl cl W hRz hWb HWl.out
  go_wp2_with fail
  refine HWh3.out.mono ?_
  rintro e w4 ⟨rfl, hg34⟩
  have hg4 : W1.grownBy w4 none := grownBy_trans hg3 hg34
  have hRz4 := hRz.more hg34
  clear HWh3 hRz hg3 hg34 k0 k1 k2 k3 W2 w3 w2
  obtain ⟨k0, k1, k2, k3⟩ := HBox.out _ hg4
  have hiff := HNl.out W hWb (by rw [HWl.out]; have := HNe.out; omega)
  cases hNo : noLeftB G W with
  | true =>
    rw [hNo] at hiff
    obtain ⟨wf, hwf⟩ : ∃ wf, wf = w4 := ⟨_, rfl⟩
    obtain ⟨V, hV⟩ : ∃ V, V = W := ⟨_, rfl⟩
    obtain ⟨gf, hgf⟩ : ∃ gf, gf = gl := ⟨_, rfl⟩
    obtain ⟨cf, hcf⟩ : ∃ cf, cf = cl := ⟨_, rfl⟩
    rw [← hwf, ← hgf, ← hV] at hRz4
    rw [← hwf] at hg4
    rw [← hwf, ← hgf, ← hcf]
    rw [← hcf] at hcl
    have HNear : Hid (Near m t W V) := by rw [hV]; exact ⟨rfl, hiff.1 rfl, by rw [wt_self]; exact Nat.zero_le _⟩
    have HCnt : Hid (wt (xl W V) = 0) := by rw [hV]; exact wt_self W
    have HRz : Hid (Rz wf gf V) := hRz4
    have HGf : Hid (W1.grownBy wf none) := hg4
    have HVl : Hid (V.length = N) := by rw [hV]; exact HWl.out
    clear hiff hNo hV hwf hgf hcf hRz4 hg4 k0 k1 k2 k3 HNl HWh
    have hcl8 : ((8 : Int) * (bytes : Int)) ≤ (cf : Int) := by omega
    have h8n : ((8 : Int) * (bytes : Int)) ≤ (N : Int) := by omega
    have h8t : ((8 : Int) * (bytes : Int)).toNat = 8 * bytes := by omega
    have h80 : (0 : Int) ≤ (8 : Int) * (bytes : Int) := by omega
    have h8w : IntKind.i64.wrap ((8 : Int) * (bytes : Int)) = (8 : Int) * (bytes : Int) := by rw [IntKind.wrap_i64]; omega
    have hNc : (N : Int) ≤ (cf : Int) := by omega
    have hc4 : 8 * bytes < cf := by omega
    have HS0 : Hid (wf.grownBy wf.drew none ∧ wf.drew.cell? ⟨w.heap.size, 1, none⟩ = some (num bytes)) := ⟨grownBy_drew (World.grownBy.refl _ _), (HBox.out _ HGf.out).2.1⟩
    have HB1 : Hid (∀ wA, wf.grownBy wA none → Calls Tryd.prog 33 #[.slice (some ⟨gf, 0, none⟩) (8 * bytes) cf] wA fun e w' => e = .returned (.slice (some ⟨wA.heap.size, 0, none⟩) bytes bytes) ∧ PkRel wA w' (bytesS (V.take (8 * bytes)))) := fun wA hg => by
      have h := sbytes_at (wA := wA) (g := gf) (off := 0) (cap := cf) (S := V.take (8 * bytes)) (n := 8 * bytes) (fun i hi => by
        rw [List.length_take] at hi
        rw [Nat.zero_add, nth_take _ (by omega)]; exact (HRz.out.more hg) i (by omega)) (by rw [List.length_take, HVl.out]; omega) (by omega)
      rwa [show (8 * bytes + 7) / 8 = bytes by omega] at h
    have HB2 : Hid (∀ wA, wf.grownBy wA none → Calls Tryd.prog 33 #[.slice (some ⟨gf, 8 * bytes, none⟩) (N - 8 * bytes) (cf - 8 * bytes)] wA fun e w' => e = .returned (.slice (some ⟨wA.heap.size, 0, none⟩) ((r + 7) / 8) ((r + 7) / 8)) ∧ PkRel wA w' (bytesS (V.drop (8 * bytes)))) := fun wA hg => by
      have h := sbytes_at (wA := wA) (g := gf) (off := 8 * bytes) (cap := cf - 8 * bytes) (S := V.drop (8 * bytes)) (n := N - 8 * bytes) (fun i hi => by
        rw [List.length_drop] at hi
        rw [nth_drop]; exact (HRz.out.more hg) (8 * bytes + i) (by omega)) (by rw [List.length_drop, HVl.out]) (by omega)
      rwa [show (N - 8 * bytes + 7) / 8 = (r + 7) / 8 by have := HNe.out; omega] at h
    have k1 := (HBox.out _ HGf.out).2.1
    go_wp2_with fail
    go_region_held3 (fun w' => wf.grownBy w' none ∧ w'.cell? ⟨w.heap.size, 1, none⟩ = some (num bytes)) (first | assumption | exact HS0.out | exact dk_keep ‹_› ‹_›)
      (first | (go_at_call 33; have hQ5 := hP5; refine (HB2.out _ (‹wf.grownBy _ none ∧ _›).1).mono ?_; rintro e w6 ⟨rfl, hP6⟩) | (go_at_call 33; refine (HB1.out _ (‹wf.grownBy _ none ∧ _›).1).mono ?_; rintro e w5 ⟨rfl, hP5⟩))
    have HQ := sdec_fin (r := r) (grownBy_trans hw1 HGf.out) (grownBy_drew (World.grownBy.refl wf none)) hP5 hP6 HNear.out HCnt.out
    clear hP5 hP6 hQ5 HB1 HB2 HNear HCnt HRz
    go_wp2
    exact bodyPost_ret (v := .tuple #[.slice (some ⟨wf.heap.size, 0, none⟩) bytes bytes, .slice (some ⟨w5.heap.size, 0, none⟩) ((r + 7) / 8) ((r + 7) / 8), num (0 : Nat), num 0]) (by simp [results, Tryd.f22, go_sem]) rfl HQ
  | false =>
    rw [hNo] at hiff
    have HNot : Hid (¬ IsW m t W.reverse) := fun h => by simpa using hiff.2 h
    have HSy : Hid (∀ wr, w4.grownBy wr none → ∀ k : Nat, Calls Tryd.prog 44 #[codeV m bytes t (.slice ao G.length cg), .slice (some ⟨gl, 0, none⟩) N cl, num ((k : Int) + 1)] wr fun e w' => e = .returned (num (ev m (pw m (k + 1)) W.reverse : Nat)) ∧ wr.grownBy w' none) := fun wr hg k => by
      have h := ssyndrome_ok (w := wr) hm bytes t ao (some ⟨gl, 0, none⟩) G.length cg cl W (hRz4.more hg).rdN hWb ((k + 1 : Nat) : Int) (by rw [HWl.out]; omega)
      rw [HWl.out, xp_nat hm] at h
      exact h
    clear hiff hNo k0 k1 k2 k3
    go_wp2_with fail
    go_loopw [12, 13] (fun vs c wr => ∃ k : Nat, k ≤ 2 * t ∧ c = num ((k : Int) + 1) ∧ Row w4 wr vs ((List.range k).map fun i => ev m (pw m (i + 1)) W.reverse)) (fun _ c _ => 2 * t + 1 - (intOf c).toNat)
    case atStart => exact ⟨0, Nat.zero_le _, rfl, Row.start _⟩
    case round =>
      obtain ⟨k, hk, rfl, hQ⟩ := hrel
      have hgW := grownBy_trans hg4 hQ.more
      obtain ⟨k0, k1, k2, k3⟩ := HBox.out _ hgW
      by_cases hkl : k < 2 * t
      · have e1 : (k : Int) + 1 ≤ 2 * (t : Int) := by omega
        have HS5 : Hid (Calls Tryd.prog 44 #[codeV m bytes t (.slice ao G.length cg), .slice (some ⟨gl, 0, none⟩) N cl, num ((k : Int) + 1)] wr fun e w' => e = .returned (num (ev m (pw m (k + 1)) W.reverse : Nat)) ∧ wr.grownBy w' none) := HSy.out _ hQ.more k
        have HT : Hid ((List.range (k + 1)).map (fun i => ev m (pw m (i + 1)) W.reverse) = (List.range k).map (fun i => ev m (pw m (i + 1)) W.reverse) ++ [ev m (pw m (k + 1)) W.reverse]) := by rw [Hid, List.range_succ, List.map_append]; rfl
        have HSl : Hid (((List.range k).map fun i => ev m (pw m (i + 1)) W.reverse).length = k) := by simp [Hid]
        generalize (List.range k).map (fun i => ev m (pw m (i + 1)) W.reverse) = Z at hQ HT HSl
        generalize ev m (pw m (k + 1)) W.reverse = x at HS5 HT
        have hSle : Z.length ≤ 100 := by have := HSl.out; omega
        go_wp2_with fail
        refine HS5.out.mono ?_
        rintro e w5 ⟨rfl, hg5⟩
        have hQ5 := hQ.kept hg5
        have hsz := hQ5.more.size
        clear HS5 hQ k0 k1 k2 k3 hgW
        go_wp2_with (first | (at_builtin; refine wpList_append_own _ rfl _ _ 27 rfl _ 3 i0 (.int .i64 0) 1 8 Tryd.underlying27 hi0 hz0 hz1 hz2 rfl (by decide) _ _ _ rfl (hQ5.own.alloc _) ⟨w5.heap.size, 0, none⟩ 1 1 [.int .i64 (x : Nat)] rfl rfl ?c1 ?c2 ?c3 ?c4 ?c5 ?_))
        case c1 => exact cell_one_new _ _ _
        case c2 => intro u hu; simp at hu; subst hu; rfl
        case c3 => unfold maxLen; omega
        case c4 => omega
        case c5 => simp; omega
        intro v' w6 hown hgrow _
        have hA2 := hQ5.append hown hgrow
        rw [← HT.out] at hA2
        clear hown hgrow hQ5
        go_wp2_with fail
        go_roundw
        case rel => exact ⟨k + 1, by omega, by go_num, hA2⟩
        case measure => simp [intOf]; omega
      · obtain rfl : k = 2 * t := by omega
        have e1 : ¬ ((2 * t : Nat) : Int) + 1 ≤ 2 * (t : Int) := by omega
        have HSl : Hid (((List.range (2 * t)).map fun i => ev m (pw m (i + 1)) W.reverse).length = 2 * t) := by simp [Hid]
        have HSn : Hid (∀ i, i < 2 * t → nth ((List.range (2 * t)).map fun i => ev m (pw m (i + 1)) W.reverse) i = ev m (pw m (i + 1)) W.reverse) := fun i hi => by
          rw [nth_of (by simpa using hi)]; simp
        generalize (List.range (2 * t)).map (fun i => ev m (pw m (i + 1)) W.reverse) = s at hQ HSl HSn
        obtain ⟨az, cs, rfl, hRs⟩ := hQ.rdA
        have hRz5 := hRz4.more hQ.more
        obtain ⟨w5, hw5⟩ : ∃ w5, w5 = wr := ⟨_, rfl⟩
        rw [← hw5] at hRs hRz5 hgW k0 k1 k2 k3
        rw [← hw5]
        have HPl : Hid (∀ wq v, w5.grownBy wq none → 1 ≤ v → v ≤ t → Calls Tryd.prog 45 #[codeV m bytes t (.slice ao G.length cg), .slice az s.length cs, num (v : Nat), num (N : Nat)] wq fun e w' => PlPost m v N wq (gss m v v 0 (hnk fun e => ev m (pw m e) W.reverse)) e w') := fun wq v hg hv1 hv2 =>
          places_ok hm hv1 (by omega) (by omega) bytes t ao az G.length cg cs (fun e => ev m (pw m e) W.reverse) (fun e => ev_le hm _ _) s (hRs.more hg) (by rw [HSl.out]; omega) (by rw [HSl.out]; omega) (fun i hi => HSn.out i (by omega))
        clear hw5 hQ hRs HSy hRz4 hg4 hk hkl
        go_wp2_with fail
        go_loopw [10, 11, 14, 15] (fun vl cf vo cv wq => ∃ v : Nat, v ≤ t ∧ cv = num v ∧ w5.grownBy wq none ∧ DecIn m t N gl cl v W wq vl cf vo) (fun _ _ _ cv _ => (intOf cv).toNat)
        case atStart => exact ⟨t, Nat.le_refl _, rfl, World.grownBy.refl _ _, .inl ⟨rfl, rfl, rfl, fun V hV => hV.2.2⟩⟩
        case round =>
          clear k0 k1 k2 k3
          obtain ⟨v, hv, rfl, hg, hin⟩ := hrel
          have hgW6 := grownBy_trans hgW hg
          obtain ⟨k0, k1, k2, k3⟩ := HBox.out _ hgW6
          rcases hin with ⟨rfl, rfl, rfl, hno⟩ | ⟨V, gf, cf, rfl, hcf, hRzV, hNear, hVl, rfl, rfl⟩
          · by_cases hv0 : v = 0
            · subst hv0
              have HQ := sdec_no (bytes := bytes) (r := r) (grownBy_trans hw1 hgW6) (W := W) (m := m) (t := t) (fun V hV => HNot.out (by
                have h0 := hno V hV
                have h1 := near_zero hV.1 hWb (by have := bits_rev hV.2.1.1; rwa [List.reverse_reverse] at this) (by omega)
                rw [h1] at hV; exact hV.2.1))
              clear hno
              go_wp2_with fail
              exact bodyPost_ret (v := .tuple #[.slice none 0 0, .slice none 0 0, num 0, num 20]) (by simp [results, Tryd.f22, go_sem]) rfl HQ
            · have hv1 : 1 ≤ v := by omega
              have b1 : (0 : Int) < (v : Int) := by omega
              have HP6 : Hid (Calls Tryd.prog 45 #[codeV m bytes t (.slice ao G.length cg), .slice az s.length cs, num (v : Nat), num (N : Nat)] wr fun e w' => PlPost m v N wr (gss m v v 0 (hnk fun e => ev m (pw m e) W.reverse)) e w') := HPl.out _ v hg hv1 hv
              have HFd : Hid (∀ V, Near m t W V → wt (xl W V) = v → ∃ M', gss m v v 0 (hnk fun e => ev m (pw m e) W.reverse) = some M' ∧ (plS m N (plq v fun r => M' r v) N).length = v ∧ trS W (plS m N (plq v fun r => M' r v) N) = V) := fun V hV he => pet_found hm hWb HWl.out hfit hV he
              generalize gss m v v 0 (hnk fun e => ev m (pw m e) W.reverse) = R at HP6 HFd
              have HNo : Hid _ := hno
              have HVm : Hid (((v - 1 : Nat) : Int) = (v : Int) - 1) := by rw [Hid]; omega
              clear hv0 hno
              go_wp2_with fail
              refine HP6.out.mono ?_
              rintro e w6 ⟨hg6, hpost⟩
              clear HP6 k0 k1 k2 k3
              have hg56 := grownBy_trans hg hg6
              cases R with
              | none =>
                have hp : e = .returned (.tuple #[.slice none 0 0, .bool false]) := hpost
                subst hp
                have HL : Hid (∀ V, Near m t W V → wt (xl W V) ≤ v - 1) := near_less HNo.out (fun V hV he => by obtain ⟨M', h, _⟩ := HFd.out V hV he; cases h)
                clear HFd
                go_wp2_with fail
                go_roundw
                case rel => exact ⟨v - 1, by omega, by rw [HVm.out], hg56, .inl ⟨rfl, rfl, rfl, HL.out⟩⟩
                case measure => simp [intOf]; omega
              | some M' =>
                obtain ⟨aq, cq, hq⟩ : ∃ ao cap, e = .returned (.tuple #[.slice ao (plS m N (plq v fun r => M' r v) N).length cap, .bool ((plS m N (plq v fun r => M' r v) N).length == v)]) ∧ RdN w6 ao (plS m N (plq v fun r => M' r v) N) := hpost
                obtain ⟨rfl, hRp⟩ := hq
                have HPb : Hid (∀ p, p ∈ plS m N (plq v fun r => M' r v) N → p < N) := fun p hp => ((plS_mem (Nat.le_refl _) p).1 hp).1
                have HPf : Hid (∀ V, Near m t W V → wt (xl W V) = v → (plS m N (plq v fun r => M' r v) N).length = v ∧ trS W (plS m N (plq v fun r => M' r v) N) = V) := fun V hV he => by
                  obtain ⟨M2, h, h1, h2⟩ := HFd.out V hV he
                  cases h
                  exact ⟨h1, h2⟩
                have HPn : Hid ((plS m N (plq v fun r => M' r v) N).length = v → IsW m t (trS W (plS m N (plq v fun r => M' r v) N)).reverse → Near m t W (trS W (plS m N (plq v fun r => M' r v) N)) ∧ wt (xl W (trS W (plS m N (plq v fun r => M' r v) N))) = v) := fun h1 h2 => pet_near HWl.out hv h1 h2
                have hPN := plS_len m N (plq v fun r => M' r v) N
                generalize plS m N (plq v fun r => M' r v) N = P at hRp HPb HPf HPn hPN
                clear HFd
                by_cases hPl : P.length = v
                · have hb : (P.length == v) = true := by simp [hPl]
                  rw [hb]
                  obtain ⟨gq, oq, rfl, hcq⟩ := hRp.resolve_left (fun e => by rw [e] at hPl; simp at hPl; omega)
                  have HPv : Hid (P.length = v) := hPl
                  have HCq : Hid (∀ wq, w6.grownBy wq none → ∀ i, i < P.length → wq.cell? ⟨gq, oq + i, none⟩ = some (num (nth P i : Nat))) := fun wq hg i hi => by
                    rw [World.cell?_of_block (w := w6) (a := ⟨gq, oq + i, none⟩) (hg.block gq (lt_of_cell (hcq i hi)) (by simp))]
                    exact hcq i hi
                  have hRz6 := hRz5.more hg56
                  have HRz6 : Hid _ := hRz6
                  clear hPl hb hRp hcq hRz6
                  go_wp2_with (first | (at_builtin; refine wpList_append_own _ rfl _ _ 27 rfl w6.heap.size 3 i0 (.int .i64 0) 1 8 Tryd.underlying27 hi0 hz0 hz1 hz2 rfl (by decide) _ _ _ rfl (World.ownsRow_nil _ _ _ _) ⟨gl, 0, none⟩ N cl (vals W) rfl (by rw [vals_len, HWl.out, Nat.mul_one]) ?d1 ?d2 ?d3 ?d4 ?d5 ?_))
                  case d1 =>
                    intro j u hj
                    have hjl : j < W.length := by
                      have := (List.getElem?_eq_some_iff.1 hj).1
                      rwa [vals_len] at this
                    rw [vals_at hjl] at hj
                    rw [addr_add', Nat.zero_add, HRz6.out j hjl, hj]
                  case d2 => intro u hu; simp [vals] at hu; obtain ⟨x, _, rfl⟩ := hu; rfl
                  case d3 => unfold maxLen; omega
                  case d4 => omega
                  case d5 => exact Nat.le_refl _
                  intro v1 w7 hown hgrow _
                  rcases hown.2 with ⟨rfl, hn0⟩ | ⟨g, cap, cur, rfl, hgn, hh, hle, hq, hcs, ht⟩
                  · exfalso; omega
                  have hcur : cur = (vals W ++ cur.toList.drop N).toArray := by
                    rw [Nat.mul_one] at ht
                    rw [← ht, List.take_append_drop]
                  obtain ⟨T, hT⟩ : ∃ T, T = cur.toList.drop N := ⟨_, rfl⟩
                  rw [← hT] at hcur
                  rw [hcur] at hh
                  have hO : OwnN w6 w7 g W T := ⟨hh, hgn, hgrow⟩
                  clear hown hgrow hh hcur hT ht hcs hq cur HRz6
                  go_wp2_with fail
                  go_loopw [19] (fun c wq => ∃ i : Nat, i ≤ P.length ∧ c = num i ∧ OwnN w6 wq g (trS W (P.take i)) T) (fun c _ => P.length - (intOf c).toNat)
                  case atStart => exact ⟨0, Nat.zero_le _, rfl, hO⟩
                  case round =>
                    clear hO
                    obtain ⟨i, hi, rfl, hO⟩ := hrel
                    by_cases hil : i < P.length
                    · have e2 : (i : Int) < (P.length : Int) := by omega
                      have cp := HCq.out _ hO.grown i hil
                      have hpN := HPb.out (nth P i) (by rw [nth_of hil]; exact List.getElem_mem hil)
                      have HT : Hid (trS W (P.take (i + 1)) = put (trS W (P.take i)) (nth P i) 1) := by rw [Hid, take_snoc' hil, trS_snoc]
                      have hbit := bits_trS hWb (P.take i) (fun p hp => by rw [HWl.out]; exact HPb.out p (List.mem_of_mem_take hp)) (nth P i)
                      have hSlt : nth P i < (trS W (P.take i)).length := by rw [trS_len, HWl.out]; exact hpN
                      have cc := hO.cell hSlt
                      have zr : wr.frozen? ⟨g, nth P i, none⟩ = false := frozen_row hO.at_
                      have hN := hO.drew.store (nth P i) 1 hSlt
                      have e3 : ((nth P i : Nat) : Int) < (N : Int) := by omega
                      generalize nth P i = q at cp hpN HT hbit hSlt cc zr hN e3
                      generalize nth (trS W (P.take i)) q = b at cc hbit hN
                      clear hO hSlt
                      obtain hb | hb : b = 0 ∨ b = 1 := by omega
                      · subst hb
                        have hN' : OwnN w6 (wr.drew.setCell ⟨g, q, none⟩ (num 1)) g (put (trS W (P.take i)) q 1) T := hN
                        clear hN hbit
                        go_wp2_with fail
                        go_region_with fail
                        all_goals
                          go_wp2
                          go_roundw
                          case rel => exact ⟨i + 1, by omega, by go_num, by rw [HT.out]; exact hN'⟩
                          case measure => simp [intOf]; omega
                      · subst hb
                        have hN' : OwnN w6 (wr.drew.setCell ⟨g, q, none⟩ (num 0)) g (put (trS W (P.take i)) q 1) T := hN
                        clear hN hbit
                        go_wp2_with fail
                        go_region_with fail
                        all_goals
                          go_wp2
                          go_roundw
                          case rel => exact ⟨i + 1, by omega, by go_num, by rw [HT.out]; exact hN'⟩
                          case measure => simp [intOf]; omega
                    · obtain rfl : i = P.length := by omega
                      rw [List.take_length] at hO
                      have e2 : ¬ (P.length : Int) < (P.length : Int) := by omega
                      have hRzk := hO.rz
                      have hSl : (trS W P).length = N := by rw [trS_len, HWl.out]
                      have hSb := bits_trS hWb P (fun p hp => by rw [HWl.out]; exact HPb.out p hp)
                      have hgk : W1.grownBy wr none := grownBy_trans (grownBy_trans hgW6 hg6) hO.grown
                      obtain ⟨k0, k1, k2, k3⟩ := HBox.out _ hgk
                      have HW8 : Hid (Calls Tryd.prog 43 #[codeV m bytes t (.slice ao G.length cg), .slice (some ⟨g, 0, none⟩) N cap] wr fun e w' => e = .returned (.bool (noLeftB G (trS W P))) ∧ wr.grownBy w' none) := HWh.out _ hgk g cap (trS W P) hRzk hSb hSl
                      have HIf : Hid (noLeftB G (trS W P) = true ↔ IsW m t (trS W P).reverse) := HNl.out (trS W P) hSb (by rw [hSl]; have := HNe.out; omega)
                      have HSl : Hid _ := hSl
                      have hg57 := grownBy_trans hg56 hO.grown
                      clear hSl hO hSb hgk
                      go_wp2_with fail
                      refine HW8.out.mono ?_
                      rintro e w8 ⟨rfl, hg8⟩
                      have hg58 := grownBy_trans hg57 hg8
                      have hRz8 := hRzk.more hg8
                      clear HW8 k0 k1 k2 k3 hRzk hg57
                      cases hB : noLeftB G (trS W P) with
                      | true =>
                        obtain ⟨hNr, hwt⟩ := HPn.out HPv.out (HIf.out.1 hB)
                        have HD : Hid (DecIn m t N gl cl (v - 1) W w8 (.slice (some ⟨g, 0, none⟩) N cap) (num (v : Nat)) (.bool true)) := .inr ⟨trS W P, g, cap, rfl, hle, hRz8, hNr, HSl.out, by rw [hwt], rfl⟩
                        clear hNr hwt hRz8 HIf HPn HPf hB
                        go_wp2_with fail
                        go_roundw
                        case rel => exact ⟨v - 1, by omega, by rw [HVm.out], hg58, HD.out⟩
                        case measure => simp [intOf]; omega
                      | false =>
                        have HL : Hid (∀ V, Near m t W V → wt (xl W V) ≤ v - 1) := near_less HNo.out (fun V hV he => by
                          obtain ⟨_, h2⟩ := HPf.out V hV he
                          have := HIf.out.2 (by rw [h2]; exact hV.2.1)
                          rw [hB] at this; cases this)
                        clear hRz8 HIf HPn HPf hB
                        go_wp2_with fail
                        go_roundw
                        case rel => exact ⟨v - 1, by omega, by rw [HVm.out], hg58, .inl ⟨rfl, rfl, rfl, HL.out⟩⟩
                        case measure => simp [intOf]; omega
                · have hb : (P.length == v) = false := by simp [hPl]
                  have HL : Hid (∀ V, Near m t W V → wt (xl W V) ≤ v - 1) := near_less HNo.out (fun V hV he => hPl (HPf.out V hV he).1)
                  rw [hb]
                  clear hPl hb HPf HPn hRp
                  go_wp2_with fail
                  go_roundw
                  case rel => exact ⟨v - 1, by omega, by rw [HVm.out], hg56, .inl ⟨rfl, rfl, rfl, HL.out⟩⟩
                  case measure => simp [intOf]; omega
          · have HNear : Hid (Near m t W V) := hNear
            have HRz : Hid (Rz wr gf V) := hRzV
            have HVl : Hid (V.length = N) := hVl
            obtain ⟨cnt, hcnt⟩ : ∃ cnt, cnt = wt (xl W V) := ⟨_, rfl⟩
            have HCnt : Hid (wt (xl W V) = cnt) := hcnt.symm
            rw [← hcnt]
            have HGf : Hid (W1.grownBy wr none) := hgW6
            obtain ⟨wf, hwf⟩ : ∃ wf, wf = wr := ⟨_, rfl⟩
            rw [← hwf] at HRz HGf ⊢
            clear hNear hRzV hVl hcnt hwf hgW6 hg HPl HNl HWh k0 k1 k2 k3
            rcases Classical.em ((0 : Int) < (v : Int)) with b1 | b1
            all_goals
              have hcl8 : ((8 : Int) * (bytes : Int)) ≤ (cf : Int) := by omega
              have h8n : ((8 : Int) * (bytes : Int)) ≤ (N : Int) := by omega
              have h8t : ((8 : Int) * (bytes : Int)).toNat = 8 * bytes := by omega
              have h80 : (0 : Int) ≤ (8 : Int) * (bytes : Int) := by omega
              have h8w : IntKind.i64.wrap ((8 : Int) * (bytes : Int)) = (8 : Int) * (bytes : Int) := by rw [IntKind.wrap_i64]; omega
              have hNc : (N : Int) ≤ (cf : Int) := by omega
              have hc4 : 8 * bytes < cf := by omega
              have HS0 : Hid (wf.grownBy wf.drew none ∧ wf.drew.cell? ⟨w.heap.size, 1, none⟩ = some (num bytes)) := ⟨grownBy_drew (World.grownBy.refl _ _), (HBox.out _ HGf.out).2.1⟩
              have HB1 : Hid (∀ wA, wf.grownBy wA none → Calls Tryd.prog 33 #[.slice (some ⟨gf, 0, none⟩) (8 * bytes) cf] wA fun e w' => e = .returned (.slice (some ⟨wA.heap.size, 0, none⟩) bytes bytes) ∧ PkRel wA w' (bytesS (V.take (8 * bytes)))) := fun wA hg => by
                have h := sbytes_at (wA := wA) (g := gf) (off := 0) (cap := cf) (S := V.take (8 * bytes)) (n := 8 * bytes) (fun i hi => by
                  rw [List.length_take] at hi
                  rw [Nat.zero_add, nth_take _ (by omega)]; exact (HRz.out.more hg) i (by omega)) (by rw [List.length_take, HVl.out]; omega) (by omega)
                rwa [show (8 * bytes + 7) / 8 = bytes by omega] at h
              have HB2 : Hid (∀ wA, wf.grownBy wA none → Calls Tryd.prog 33 #[.slice (some ⟨gf, 8 * bytes, none⟩) (N - 8 * bytes) (cf - 8 * bytes)] wA fun e w' => e = .returned (.slice (some ⟨wA.heap.size, 0, none⟩) ((r + 7) / 8) ((r + 7) / 8)) ∧ PkRel wA w' (bytesS (V.drop (8 * bytes)))) := fun wA hg => by
                have h := sbytes_at (wA := wA) (g := gf) (off := 8 * bytes) (cap := cf - 8 * bytes) (S := V.drop (8 * bytes)) (n := N - 8 * bytes) (fun i hi => by
                  rw [List.length_drop] at hi
                  rw [nth_drop]; exact (HRz.out.more hg) (8 * bytes + i) (by omega)) (by rw [List.length_drop, HVl.out]) (by omega)
                rwa [show (N - 8 * bytes + 7) / 8 = (r + 7) / 8 by have := HNe.out; omega] at h
              have k1 := (HBox.out _ HGf.out).2.1
              go_wp2_with fail
              go_region_held3 (fun w' => wf.grownBy w' none ∧ w'.cell? ⟨w.heap.size, 1, none⟩ = some (num bytes)) (first | assumption | exact HS0.out | exact dk_keep ‹_› ‹_›)
                (first | (go_at_call 33; have hQ5 := hP5; refine (HB2.out _ (‹wf.grownBy _ none ∧ _›).1).mono ?_; rintro e w6 ⟨rfl, hP6⟩) | (go_at_call 33; refine (HB1.out _ (‹wf.grownBy _ none ∧ _›).1).mono ?_; rintro e w5 ⟨rfl, hP5⟩))
              have HQ := sdec_fin (r := r) (grownBy_trans hw1 HGf.out) (grownBy_drew (World.grownBy.refl wf none)) hP5 hP6 HNear.out HCnt.out
              clear hP5 hP6 hQ5 HB1 HB2 HNear HCnt HRz
              go_wp2
              exact bodyPost_ret (v := .tuple #[.slice (some ⟨wf.heap.size, 0, none⟩) bytes bytes, .slice (some ⟨w5.heap.size, 0, none⟩) ((r + 7) / 8) ((r + 7) / 8), num (cnt : Nat), num 0]) (by simp [results, Tryd.f22, go_sem]) rfl HQ
end Gf
end Go.Proofs.YtiojdoehlooibaaDoor
