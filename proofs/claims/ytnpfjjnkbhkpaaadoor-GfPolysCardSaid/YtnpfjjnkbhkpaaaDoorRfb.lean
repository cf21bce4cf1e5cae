/- The document's own rest of a division. -/
import Derived.Test.YtnpfjjnkbhkpaaaDoorRfa
import Derived.Deep.LoopGhost
import Derived.Deep.RegionHeld3
import Derived.Deep.QuietTactic
import Derived.BigQuiet
namespace Go.Proofs.YtnpfjjnkbhkpaaaDoor
open Go.RowKit
namespace Gf
theorem owns_slice {w : World} {B n : Nat} {v : Value} {xs : List Value} (h : w.ownsRow B 3 1 v n xs) : ∃ ao cap, v = .slice ao n cap := by
  rcases h.2 with ⟨rfl, rfl⟩ | ⟨g, cap, cur, rfl, _⟩
  · exact ⟨none, 0, rfl⟩
  · exact ⟨_, _, rfl⟩
theorem grown_own {w wr w1 : World} {o : Obj} {v : Value} {n : Nat} {xs : List Value} (hg : w.grownBy wr none) (ho : wr.ownsRow w.heap.size 3 1 v n xs) (h : (wr.alloc o).grownBy w1 v.ownBlock) : w.grownBy w1 none := by
  have h1 := hg.size
  have h2 := h.size
  simp at h2
  refine ⟨h.os.trans hg.os, h.tape.trans hg.tape, h.output.trans hg.output, by omega, fun k hk _ => ?_⟩
  rw [h.block k (by simp; omega) (fun e => by have := (ho.lt k e.symm).1; omega), Below.heap_alloc _ _ _ (by omega)]
  exact hg.block k hk (by simp)
/-- The first k as elements. -/
def rowK (m : Nat) (xs : List Int) (k : Nat) : List Nat := (xs.map (el m)).take k
theorem rowK_len (m : Nat) (xs : List Int) {k : Nat} (h : k ≤ xs.length) : (rowK m xs k).length = k := by simp [rowK]; omega
theorem rowK_all (m : Nat) (xs : List Int) : rowK m xs xs.length = xs.map (el m) := by
  unfold rowK; rw [List.take_of_length_le (by simp)]
theorem els_snoc (m : Nat) (xs : List Int) {k : Nat} (h : k < xs.length) : vals (rowK m xs (k + 1)) = vals (rowK m xs k) ++ [.int .i64 (el m (nthI xs k))] := by
  unfold rowK
  rw [take_snoc' (by simpa using h), nth_map_el m xs h]
  simp [vals]
/-- A row that the call has gathered. -/
theorem owns_got {w : World} {B n : Nat} {v : Value} {l : List Nat} (h : w.ownsRow B 3 1 v n (vals l)) (hne : v ≠ .slice none 0 0) : ∃ g L, v = .slice (some ⟨g, 0, none⟩) n (List.length L) ∧ w.heap[g]? = some (.cells L.toArray 3) ∧ L.take n = vals l ∧ n ≤ L.length ∧ B ≤ g := by
  rcases h.2 with ⟨e, _⟩ | ⟨g, cap, cur, rfl, hg, hh, hle, _, hcs, ht⟩
  · exact absurd e hne
  · refine ⟨g, cur.toList, by simp [hcs], by simpa using hh, by simpa using ht, by simp; omega, hg⟩
/-- What holds while it is divided. -/
structure RrRel (m : Nat) (w wr : World) (ga gb : Nat) (R : List Nat) (T B : List Value) : Prop where
  ata : wr.heap[ga]? = some (.cells (vals R ++ T).toArray 3)
  atb : wr.heap[gb]? = some (.cells B.toArray 3)
  grown : w.grownBy wr none
  els : Els m R
theorem RrRel.cell {m : Nat} {w wr : World} {ga gb : Nat} {R : List Nat} {T B : List Value} (h : RrRel m w wr ga gb R T B) {k : Nat} (hk : k < R.length) : wr.cell? ⟨ga, k, none⟩ = some (num (nth R k : Nat)) := by
  rw [cell_row h.ata, List.getElem?_append_left (by rw [vals_len]; exact hk), vals_at hk]
theorem RrRel.drew {m : Nat} {w wr : World} {ga gb : Nat} {R : List Nat} {T B : List Value} (h : RrRel m w wr ga gb R T B) : RrRel m w wr.drew ga gb R T B := ⟨h.ata, h.atb, grownBy_drew h.grown, h.els⟩
theorem RrRel.drewN {m : Nat} {w wr : World} {ga gb : Nat} {R : List Nat} {T B : List Value} (h : RrRel m w wr ga gb R T B) (n : Nat) : RrRel m w (wr.drewN n) ga gb R T B := ⟨h.ata, h.atb, grownBy_drewN h.grown n, h.els⟩
theorem RrRel.store {m : Nat} {w wr : World} {ga gb : Nat} {R : List Nat} {T B : List Value} (h : RrRel m w wr ga gb R T B) (hga : w.heap.size ≤ ga) (hne : gb ≠ ga) (k v : Nat) (hk : k < R.length) (hv : v ≤ sz m) : RrRel m w (wr.setCell ⟨ga, k, none⟩ (num (nth R k ^^^ v : Nat))) ga gb (put R k v) T B :=
  ⟨by
    have := setCell_row (i := k) h.ata (num (nth R k ^^^ v : Nat))
    rw [List.set_append_left _ _ (by rw [vals_len]; exact hk), vals_set] at this
    exact this, by rw [setCell_else hne]; exact h.atb, grownBy_setCell h.grown (.inl hga) _, h.els.put k hv⟩
theorem RrRel.trim {m : Nat} {w wr : World} {ga gb : Nat} {R : List Nat} {T B : List Value} (h : RrRel m w wr ga gb R T B) : RrRel m w wr ga gb (trimN R) (vals (R.drop (trimN R).length) ++ T) B := by
  refine ⟨?_, h.atb, h.grown, els_trim h.els⟩
  have e : R = trimN R ++ R.drop (trimN R).length := by
    obtain ⟨n, hn, e⟩ := trimN_prefix R
    have hl : (trimN R).length = n := by rw [e]; simp; omega
    rw [hl]
    conv => lhs; rw [← List.take_append_drop n R]
    rw [e]
  have h2 : vals (trimN R) ++ (vals (R.drop (trimN R).length) ++ T) = vals R ++ T := by
    rw [← List.append_assoc]
    congr 1
    unfold vals
    rw [← List.map_append, ← e]
  rw [h2]; exact h.ata
theorem owns_Got {w : World} {B n cap : Nat} {ao : Option Addr} {l : List Nat} (h : w.ownsRow B 3 1 (.slice ao n cap) n (vals l)) (hn : l.length = n) (hnil : n = 0 ↔ Value.slice ao n cap = .slice none 0 0) : Got w B (.slice ao l.length cap) l := by
  rw [hn]
  by_cases h0 : n = 0
  · exact .inl ⟨hnil.1 h0, List.eq_nil_of_length_eq_zero (by omega)⟩
  · obtain ⟨g, L, e1, e2, e3, e4, e5⟩ := owns_got h (fun e => h0 (hnil.2 e))
    rw [← hn] at e3 e4
    exact .inr ⟨g, L, by rw [hn]; exact e1, e2, e3, e4, e5⟩
theorem take_trim {L : List Value} {l : List Nat} (h : L.take l.length = vals l) : L.take (trimN l).length = vals (trimN l) := by
  obtain ⟨n, hn, e⟩ := trimN_prefix l
  have hl : (trimN l).length = n := by rw [e]; simp; omega
  rw [hl, e]
  have : L.take n = (L.take l.length).take n := by rw [List.take_take, Nat.min_eq_left hn]
  rw [this, h]
  simp [vals]
theorem Got.trim {w : World} {B cap : Nat} {ao : Option Addr} {l : List Nat} (h : Got w B (.slice ao l.length cap) l) : Got w B (.slice ao (trimN l).length cap) (trimN l) := by
  rcases h with ⟨e1, rfl⟩ | ⟨g, L, e1, e2, e3, e4, e5⟩
  · exact .inl ⟨e1, rfl⟩
  · simp only [Value.slice.injEq, true_and] at e1
    obtain ⟨rfl, rfl⟩ := e1
    exact .inr ⟨g, L, rfl, e2, take_trim e3, Nat.le_trans (trimN_len l) e4, e5⟩
theorem Got.lower' {w : World} {B B' : Nat} {v : Value} {xs : List Nat} (h : Got w B v xs) (hB : B' ≤ B) : Got w B' v xs := by
  rcases h with h | ⟨g, L, h1, h2, h3, h4, h5⟩
  · exact .inl h
  · exact .inr ⟨g, L, h1, h2, h3, h4, by omega⟩
theorem rTrim_got {w : World} {B cap : Nat} {ao : Option Addr} {l : List Nat} (h : Got w B (.slice ao l.length cap) l) (hm : l.length ≤ 1000000) :
    Calls Tryd.prog 47 #[.slice ao l.length cap] w fun e w' => e = .returned (.slice ao (trimN l).length cap) ∧ w' = w := by
  rcases h with ⟨e1, rfl⟩ | ⟨g, L, e1, e2, e3, e4, e5⟩
  · simp at e1
    obtain ⟨rfl, rfl⟩ := e1
    exact rTrim_nil w
  · simp only [Value.slice.injEq, true_and] at e1
    obtain ⟨rfl, rfl⟩ := e1
    exact rTrim_ok l L e2 e3 e4 hm
set_option maxHeartbeats 3200000 in
theorem rRest_ok {b m : Nat} (hm : Em m) {w : World} (ap aq : Option Addr) (cp cq : Nat) (xs ys : List Int) (hx : Rd b w ap xs) (hy : Rd b w aq ys) (hlx : xs.length ≤ 100000) (hly : ys.length ≤ 100000) :
    Calls Tryd.prog 32 #[num m, .slice ap xs.length cp, .slice aq ys.length cq] w fun e w' => ∃ v, e = .returned v ∧ Got w' w.heap.size v (restS m (rowS m xs) (rowS m ys)) ∧ w.grownBy w' none := by
  have hsz := sz_bd hm
  obtain ⟨i0, hi, hz0, hz1, hz2⟩ := info_parts Tryd.info3
  go_enter Tryd.func32, Tryd.ntmps32
  go_wp2_with fail
  go_loopg [7, 8] xs.length (fun gk v c wr => ∃ k : Nat, k + gk = xs.length ∧ c = num k ∧ wr.ownsRow w.heap.size 3 1 v k (vals (rowK m xs k)) ∧ (k = 0 ↔ v = .slice none 0 0) ∧ w.grownBy wr none)
  case atStart => exact ⟨0, by omega, rfl, World.ownsRow_nil _ _ _ _, by simp, World.grownBy.refl _ _⟩
  case round =>
    obtain ⟨k, hkg, rfl, hown, hnil, hgr⟩ := hrel
    obtain ⟨ao, cap, rfl⟩ := owns_slice hown
    by_cases hlt : k < xs.length
    · have hlt' : (k : Int) < (xs.length : Int) := by omega
      obtain ⟨g, off, rfl, -, hc⟩ := (hx.more hgr).resolve_left (fun e => by rw [e] at hlt; simp at hlt)
      have ck := hc k hlt
      have HS : Hid _ := els_snoc m xs hlt
      have HN : Hid _ := hnil
      clear hc hnil
      go_wp2_with (first | (go_at_call 14; refine (rIn_ok hm _ _).mono ?_; rintro e w' ⟨rfl, rfl⟩) | (at_builtin; refine wpList_append_own _ rfl _ _ 36 rfl w.heap.size 3 i0 (.int .i64 0) 1 8 Tryd.underlying36 hi hz0 hz1 hz2 rfl (by decide) _ _ _ rfl (hown.alloc _) ⟨w'.heap.size, 0, none⟩ 1 1 [.int .i64 (el m (nthI xs k))] rfl rfl ?c1 ?c2 ?c3 ?c4 ?c5 ?_))
      case c1 => exact cell_one_new _ _ _
      case c2 => intro u hu; simp at hu; subst hu; rfl
      case c3 => unfold maxLen; omega
      case c4 => omega
      case c5 => have := hgr.size; simp; omega
      intro v' w6 hown' hgrow hvn
      have hgr6 := grown_own hgr hown hgrow
      have HO6 : Hid (w6.ownsRow w.heap.size 3 1 v' (k + 1) (vals (rowK m xs (k + 1)))) := by rw [HS.out]; exact hown'
      have HV : Hid (¬ v' = .slice none 0 0) := hvn
      clear hown hown' hgrow hvn hgr
      go_wp2_with fail
      go_roundg (gk - 1)
      case measure => omega
      case rel => exact ⟨k + 1, by omega, by go_num, HO6.out, ⟨fun e => by omega, fun e => absurd e HV.out⟩, hgr6⟩
    · obtain rfl : k = xs.length := by omega
      have hlt' : ¬ (xs.length : Int) < (xs.length : Int) := by omega
      rw [rowK_all] at hown
      have hGa := owns_Got hown (by simp) hnil
      rw [List.length_map] at hGa
      have hsz1 := hgr.size
      have hy1 := hy.more hgr
      clear hown hnil hx hy hkg hlt
      go_wp2_with fail
      go_loopg [9, 10] ys.length (fun gk v c ws => ∃ k : Nat, k + gk = ys.length ∧ c = num k ∧ ws.ownsRow wr.heap.size 3 1 v k (vals (rowK m ys k)) ∧ (k = 0 ↔ v = .slice none 0 0) ∧ wr.grownBy ws none)
      case atStart => exact ⟨0, by omega, rfl, World.ownsRow_nil _ _ _ _, by simp, World.grownBy.refl _ _⟩
      case round =>
        obtain ⟨k, hkg, rfl, hown, hnil, hgr2⟩ := hrel
        obtain ⟨ao2, cap2, rfl⟩ := owns_slice hown
        by_cases hlt : k < ys.length
        · have hlt2 : (k : Int) < (ys.length : Int) := by omega
          obtain ⟨g, off, rfl, -, hc⟩ := (hy1.more hgr2).resolve_left (fun e => by rw [e] at hlt; simp at hlt)
          have ck := hc k hlt
          have HS : Hid _ := els_snoc m ys hlt
          clear hc hnil
          go_wp2_with (first | (go_at_call 14; refine (rIn_ok hm _ _).mono ?_; rintro e w' ⟨rfl, rfl⟩) | (at_builtin; refine wpList_append_own _ rfl _ _ 36 rfl wr.heap.size 3 i0 (.int .i64 0) 1 8 Tryd.underlying36 hi hz0 hz1 hz2 rfl (by decide) _ _ _ rfl (hown.alloc _) ⟨w'.heap.size, 0, none⟩ 1 1 [.int .i64 (el m (nthI ys k))] rfl rfl ?c1 ?c2 ?c3 ?c4 ?c5 ?_))
          case c1 => exact cell_one_new _ _ _
          case c2 => intro u hu; simp at hu; subst hu; rfl
          case c3 => unfold maxLen; omega
          case c4 => omega
          case c5 => have := hgr2.size; simp; omega
          intro v' w6 hown' hgrow hvn
          have hgr6 := grown_own hgr2 hown hgrow
          have HO6 : Hid (w6.ownsRow wr.heap.size 3 1 v' (k + 1) (vals (rowK m ys (k + 1)))) := by rw [HS.out]; exact hown'
          have HV : Hid (¬ v' = .slice none 0 0) := hvn
          clear hown hown' hgrow hvn hgr2
          go_wp2_with fail
          go_roundg (gk - 1)
          case measure => omega
          case rel => exact ⟨k + 1, by omega, by go_num, HO6.out, ⟨fun e => by omega, fun e => absurd e HV.out⟩, hgr6⟩
        · obtain rfl : k = ys.length := by omega
          have hlt2 : ¬ (ys.length : Int) < (ys.length : Int) := by omega
          rw [rowK_all] at hown
          have hGb := owns_Got hown (by simp) hnil
          have hGa2 := hGa.more hgr2
          have hgrW := grownBy_trans hgr hgr2
          have htA := rTrim_got (l := xs.map (el m)) (by rw [List.length_map]; exact hGa2) (by simp; omega)
          have htB := rTrim_got (l := ys.map (el m)) hGb (by simp; omega)
          rw [List.length_map] at htA htB hGb
          have hGP : Got wr w.heap.size (.slice ao (rowS m xs).length cap) (rowS m xs) := Got.trim (by rw [List.length_map]; exact hGa2)
          have hab : ∀ ga gb oa ob, ao = some ⟨ga, oa, none⟩ → ao2 = some ⟨gb, ob, none⟩ → gb ≠ ga := by
            intro ga gb oa ob e1 e2 e3
            rcases hGa with ⟨x1, _⟩ | ⟨g1, L1, x1, x2, _⟩
            · rw [e1] at x1; simp at x1
            · rcases hGb with ⟨y1, _⟩ | ⟨g2, L2, y1, y2, _, _, y5⟩
              · rw [e2] at y1; simp at y1
              · rw [e1] at x1
                rw [e2] at y1
                simp at x1 y1
                have := lt_of_heap x2
                omega
          have HtA : Hid (Calls Tryd.prog 47 #[.slice ao xs.length cap] wr fun e w' => e = .returned (.slice ao (rowS m xs).length cap) ∧ w' = wr) := htA
          have HtB : Hid (Calls Tryd.prog 47 #[.slice ao2 ys.length cap2] wr fun e w' => e = .returned (.slice ao2 (rowS m ys).length cap2) ∧ w' = wr) := htB
          have hGQ : Got wr w.heap.size (.slice ao2 (rowS m ys).length cap2) (rowS m ys) := Got.lower' (Got.trim (by rw [List.length_map]; exact hGb)) (by omega)
          have HGa : Hid (Got wr w.heap.size (.slice ao xs.length cap) (xs.map (el m))) := hGa2
          have HGb : Hid (∃ B, Got wr B (.slice ao2 ys.length cap2) (ys.map (el m))) := ⟨_, hGb⟩
          clear htA htB hown hnil hGa hGb hGa2 hkg hlt hy1 hgr2 hgr
          go_wp2_with fail
          refine HtA.out.mono ?_
          rintro e w3 ⟨rfl, rfl⟩
          go_wp2_with fail
          refine HtB.out.mono ?_
          rintro e w3 ⟨rfl, rfl⟩
          have hPE := rowS_els m xs
          have hQE := rowS_els m ys
          have lP := rowS_len m xs
          have lQ := rowS_len m ys
          have hlastQ := rowS_trimmed m ys
          by_cases hq0 : (rowS m ys).length = 0
          · have hq0' : (((rowS m ys).length : Int) == 0) = true := by simp [hq0]
            have HR : Hid (restS m (rowS m xs) (rowS m ys) = []) := by
              unfold restS; rw [if_pos (List.eq_nil_of_length_eq_zero hq0)]; rfl
            clear hq0
            go_wp2_with fail
            go_ret
            exact ⟨_, rfl, .inl ⟨rfl, HR.out⟩, hgrW⟩
          have hq0' : (((rowS m ys).length : Int) == 0) = false := by simp; exact fun e => hq0 (by rw [e]; rfl)
          have hqn : rowS m ys ≠ [] := fun e => hq0 (by rw [e]; rfl)
          have HR : Hid (restS m (rowS m xs) (rowS m ys) = restGo m (rowS m ys) (rowS m xs).length (rowS m xs)) := by unfold restS; rw [if_neg hqn]; rfl
          obtain ⟨S, hSe⟩ : ∃ S, S = restS m (rowS m xs) (rowS m ys) := ⟨_, rfl⟩
          have HSe : Hid (restS m (rowS m xs) (rowS m ys) = S) := hSe.symm
          obtain ⟨P, hPe⟩ : ∃ P, P = rowS m xs := ⟨_, rfl⟩
          obtain ⟨Q, hQe⟩ : ∃ Q, Q = rowS m ys := ⟨_, rfl⟩
          rw [← hPe, ← hQe] at hSe
          rw [← hPe, ← hQe, ← hSe] at HR
          rw [← hPe] at hGP hPE lP ⊢
          rw [← hQe] at hGQ hQE lQ hlastQ hq0 hq0' hqn ⊢
          clear hPe hQe hSe HtA HtB HGa HGb
          by_cases hlt : P.length < Q.length
          · have HFin : Hid (S = P) := by rw [HR.out, restGo_done m Q _ P hlt]; rfl
            have hlt3 : ¬ ((Q.length : Int) ≤ (P.length : Int)) := by omega
            clear hab
            go_wp2_with fail
            go_loopg [7] 0 (fun _ v ws => v = .slice ao P.length cap ∧ ws = w3)
            case atStart => exact ⟨rfl, rfl⟩
            case round =>
              obtain ⟨rfl, rfl⟩ := hrel
              go_wp2_with fail
              go_ret
              exact ⟨_, rfl, by rw [HSe.out, HFin.out]; exact hGP, hgrW⟩
          · obtain ⟨ga, La, e1, e2, e3, e4, e5⟩ := hGP.resolve_left (fun h => absurd (show P.length = 0 by rw [h.2]; rfl) (by omega))
            obtain ⟨gb, Lb, f1, f2, f3, f4, f5⟩ := hGQ.resolve_left (fun h => hqn h.2)
            simp only [Value.slice.injEq, true_and] at e1 f1
            obtain ⟨rfl, rfl⟩ := e1
            obtain ⟨rfl, rfl⟩ := f1
            have hne : gb ≠ ga := hab ga gb 0 0 rfl rfl
            have hLs : La = vals P ++ La.drop P.length := by rw [← e3, List.take_append_drop]
            have hTl : P.length + (La.drop P.length).length = La.length := by simp; omega
            have hB : ∀ k, k < Q.length → Lb[k]? = some (num (nth Q k : Nat)) := fun k hk => take_cell f3 k hk
            obtain ⟨T, hTe⟩ : ∃ T, T = La.drop P.length := ⟨_, rfl⟩
            rw [← hTe] at hLs hTl
            obtain ⟨cA, hcA⟩ : ∃ cA, cA = La.length := ⟨_, rfl⟩
            obtain ⟨cB, hcB⟩ : ∃ cB, cB = Lb.length := ⟨_, rfl⟩
            rw [← hcA] at hTl ⊢
            rw [← hcB]
            have hbB : Q.length ≤ cB := by rw [hcB]; exact f4
            rw [hLs] at e2
            have hD0 : RrRel m w w3 ga gb P T Lb := ⟨e2, f2, hgrW, hPE⟩
            have hlq := hlastQ hqn
            have HR' : Hid (restGo m Q P.length P = S) := HR.out.symm
            clear hab e2 e3 e4 f2 f3 f4 hLs hTe hcA hcB hGP hGQ HR hgrW hlastQ
            go_wp2_with fail
            go_loopg [7] P.length (fun gk v ws => ∃ (P' : List Nat) (T' : List Value), P'.length ≤ gk ∧ P'.length + T'.length = cA ∧ v = .slice (some ⟨ga, 0, none⟩) P'.length cA ∧ P'.length ≤ P.length ∧ RrRel m w ws ga gb P' T' Lb ∧ restGo m Q gk P' = S)
            case atStart => exact ⟨P, T, Nat.le_refl _, hTl, rfl, Nat.le_refl _, hD0, HR'.out⟩
            case round =>
              obtain ⟨P', T', hPk, hPT, rfl, hPP, hD, hSt⟩ := hrel
              have HSt : Hid _ := hSt
              clear hSt hD0 HR'
              by_cases hlt3 : P'.length < Q.length
              · have HFin : Hid (S = P') := by rw [← HSt.out, restGo_done m Q _ P' hlt3]; rfl
                have hlt4 : ¬ ((Q.length : Int) ≤ (P'.length : Int)) := by omega
                have hGot : Got wr w.heap.size (.slice (some ⟨ga, 0, none⟩) P'.length cA) P' := by
                  refine .inr ⟨ga, vals P' ++ T', by simp [vals_len, hPT], hD.ata, ?_, by simp [vals_len], e5⟩
                  rw [List.take_append_of_le_length (by rw [vals_len]; exact Nat.le_refl _), ← vals_len, List.take_length]
                have hgr9 := hD.grown
                have HG9 : Hid _ := hGot
                clear hGot
                go_wp2_with fail
                go_ret
                exact ⟨_, rfl, by rw [HSe.out, HFin.out]; exact HG9.out, hgr9⟩
              · have hle' : (Q.length : Int) ≤ (P'.length : Int) := by omega
                have hle : Q.length ≤ P'.length := by omega
                have HN : Hid (restGo m Q (gk - 1) (trimN (restStep m Q P')) = S) := by
                  rw [← HSt.out]
                  conv => rhs; rw [show gk = (gk - 1) + 1 by omega, restGo, if_neg hlt3]
                  rfl
                have hsh := rest_shrinks hm hQE hD.els hlq (by omega) hle
                have cp1 : wr.cell? ⟨ga, P'.length - 1, none⟩ = some (num (nth P' (P'.length - 1) : Nat)) := hD.cell (by omega)
                have cq1 : wr.cell? ⟨gb, Q.length - 1, none⟩ = some (num (nth Q (Q.length - 1) : Nat)) := by rw [cell_row hD.atb, hB _ (by omega)]
                have iv := inv_le hm (nth Q (Q.length - 1))
                have E1 : el m (nth P' (P'.length - 1) : Int) = nth P' (P'.length - 1) := el_of (hD.els _)
                have E2 : el m (nth Q (Q.length - 1) : Int) = nth Q (Q.length - 1) := el_of (hQE _)
                have E3 : el m (invS m (nth Q (Q.length - 1)) : Int) = invS m (nth Q (Q.length - 1)) := el_of iv
                have ep1 : ((P'.length : Int) - 1).toNat = P'.length - 1 := by omega
                have eq1 : ((Q.length : Int) - 1).toNat = Q.length - 1 := by omega
                have w1 : IntKind.i64.wrap ((P'.length : Int) - 1) = (P'.length : Int) - 1 := by rw [IntKind.wrap_i64]; omega
                have w2 : IntKind.i64.wrap ((Q.length : Int) - 1) = (Q.length : Int) - 1 := by rw [IntKind.wrap_i64]; omega
                have b1 : (0 : Int) ≤ (P'.length : Int) - 1 := by omega
                have b2 : (0 : Int) ≤ (Q.length : Int) - 1 := by omega
                have b3 : (P'.length : Int) - 1 < (P'.length : Int) := by omega
                have b4 : (Q.length : Int) - 1 < (Q.length : Int) := by omega
                have HStep : Hid (restStep m Q P' = inner m (mul m (nth P' (P'.length - 1)) (invS m (nth Q (Q.length - 1)))) Q (P'.length - Q.length) P' Q.length) := rfl
                clear HSt hlt3
                go_wp2_with fail
                go_quiet ((first | (go_at_call 19; exact Calls.quiet_of_same (rInv_ok hm _ _)) | (go_at_call 17; exact Calls.quiet_of_same (rMul_ok hm _ _ _))))
                rw [E1, E3]
                obtain ⟨F, hFe⟩ : ∃ F, F = mul m (nth P' (P'.length - 1)) (invS m (nth Q (Q.length - 1))) := ⟨_, rfl⟩
                have hFl : F ≤ sz m := by rw [hFe]; exact mul_le hm _ _
                rw [← hFe] at HStep ⊢
                have HFe : Hid (el m (F : Int) = F) := el_of hFl
                have hD4 := hD.drewN nq
                clear hFe hD cp1 cq1 E1 E2 E3 ep1 eq1 w1 w2 b1 b2 b3 b4 iv
                go_wp2_with fail
                go_loopw [12] (fun c ws => ∃ j : Nat, j ≤ Q.length ∧ c = num j ∧ RrRel m w ws ga gb (inner m F Q (P'.length - Q.length) P' j) T' Lb) (fun c _ => Q.length - (intOf c).toNat)
                case atStart => exact ⟨0, Nat.zero_le _, rfl, hD4⟩
                case round =>
                  obtain ⟨j, hj, rfl, hT2⟩ := hrel
                  have hRl : (inner m F Q (P'.length - Q.length) P' j).length = P'.length := inner_len _ _ _ _ _ _
                  have HI : Hid (inner m F Q (P'.length - Q.length) P' (j + 1) = put (inner m F Q (P'.length - Q.length) P' j) (P'.length - Q.length + j) (mul m F (nth Q j))) := rfl
                  by_cases hjl : j < Q.length
                  · obtain ⟨R, hR⟩ : ∃ R, R = inner m F Q (P'.length - Q.length) P' j := ⟨_, rfl⟩
                    rw [← hR] at hRl HI hT2
                    clear hR hD4
                    have aj := hQE j
                    have ar := hT2.els (P'.length - Q.length + j)
                    have mle := mul_le hm F (nth Q j)
                    have cj : wr.cell? ⟨gb, j, none⟩ = some (num (nth Q j : Nat)) := by rw [cell_row hT2.atb, hB j hjl]
                    have cr : wr.cell? ⟨ga, P'.length - Q.length + j, none⟩ = some (num (nth R (P'.length - Q.length + j) : Nat)) := hT2.cell (by omega)
                    have zr : wr.frozen? ⟨ga, P'.length - Q.length + j, none⟩ = false := frozen_row hT2.ata
                    have hml : num (mul m (el m (F : Int)) (el m (nth Q j : Int)) : Nat) = num (mul m F (nth Q j) : Nat) := by rw [HFe.out, el_of aj]
                    have hxo : bits .xor .i64 (nth R (P'.length - Q.length + j) : Int) (mul m F (nth Q j) : Int) = ((nth R (P'.length - Q.length + j) ^^^ mul m F (nth Q j) : Nat) : Int) := xor_i64 _ _ (by omega) (by omega)
                    have b1 : (P'.length : Int) - (Q.length : Int) + (j : Int) < (P'.length : Int) := by omega
                    have b2 : (0 : Int) ≤ (P'.length : Int) - (Q.length : Int) + (j : Int) := by omega
                    have b3 : ((P'.length : Int) - (Q.length : Int) + (j : Int)).toNat = P'.length - Q.length + j := by omega
                    have b4 : (j : Int) < (Q.length : Int) := by omega
                    have b5 : (0 : Int) ≤ (j : Int) := by omega
                    have hN := hT2.drew.store e5 hne (P'.length - Q.length + j) (mul m F (nth Q j)) (by omega) mle
                    go_wp2_with fail
                    go_region_with (go_at_call 17; refine (rMul_ok hm _ _ _).mono ?_; rintro e w5 ⟨rfl, rfl⟩; rw [hml])
                    all_goals
                      go_wp2
                      go_roundw
                      case rel => exact ⟨j + 1, by omega, by go_num, by rw [HI.out]; exact hN⟩
                      case measure => simp [intOf]; omega
                  · obtain rfl : j = Q.length := by omega
                    rw [← HStep.out] at hT2
                    have hsl := restStep_len m Q P'
                    have htr := rTrim_ok (restStep m Q P') _ hT2.ata (by rw [List.take_append_of_le_length (by rw [vals_len]; exact Nat.le_refl _), ← vals_len, List.take_length]) (by simp [vals_len]) (by omega)
                    simp only [List.length_append, vals_len, hsl, hPT] at htr
                    have HTr : Hid (Calls Tryd.prog 47 #[.slice (some ⟨ga, 0, none⟩) P'.length cA] wr _) := htr
                    have hT6 := hT2.trim
                    have hl6 : (trimN (restStep m Q P')).length + (vals ((restStep m Q P').drop (trimN (restStep m Q P')).length) ++ T').length = cA := by
                      simp [vals_len]; omega
                    clear htr
                    go_wp2_with fail
                    refine HTr.out.mono ?_
                    rintro e w' ⟨rfl, rfl⟩
                    go_wp2_with fail
                    go_roundg (gk - 1)
                    case measure => omega
                    case rel => exact ⟨_, _, by omega, hl6, rfl, by omega, hT6, HN.out⟩
end Gf
end Go.Proofs.YtnpfjjnkbhkpaaaDoor
