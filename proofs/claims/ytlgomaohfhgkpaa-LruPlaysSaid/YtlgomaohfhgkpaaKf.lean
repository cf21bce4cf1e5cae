/- Layer 10 (lru): the walk of the document's Clean. -/
import Derived.Test.YtlgomaohfhgkpaaKe
import Derived.BigQuiet
namespace Go.Proofs.Ytlgomaohfhgkpaa
open Go.RowKit Go.Maps Go.Shelf
namespace Lr
theorem isD_true {lo hi : Int} {x : Ent} (h : isD lo hi x = true) : x.dirty = true ∧ ¬ x.key < lo ∧ ¬ hi ≤ x.key := by
  simp [isD] at h
  obtain ⟨h1, h2, h3⟩ := h
  exact ⟨h1, by omega, by omega⟩
theorem isD_false {lo hi : Int} {x : Ent} (h : isD lo hi x = false) : x.dirty = false ∨ (x.dirty = true ∧ x.key < lo) ∨ (x.dirty = true ∧ ¬ x.key < lo ∧ hi ≤ x.key) := by
  cases hd : x.dirty
  · exact .inl rfl
  · simp [isD, hd] at h
    by_cases h1 : x.key < lo
    · exact .inr (.inl ⟨rfl, h1⟩)
    · exact .inr (.inr ⟨rfl, h1, h (by omega)⟩)
set_option maxRecDepth 8000 in
set_option maxHeartbeats 3200000 in
theorem kClean_ok {w : World} {base r : Nat} {M : Int} {v : Value} {L : List Ent} (h : RefM w base r M v L) (hl : L.length ≤ 1000000) (lo hi : Int) : Calls Try.prog 18 #[ptr r, num lo, num hi] w (KCleanPost w base r M v L lo hi) := by
  have hn := hnot
  have hrl := lt_of_heap h.box
  have hv := h.own
  obtain ⟨p, pc, hvs, hle, hform⟩ := rowR_form h.row
  have hI0 : Hid (KcI w w base r M v L lo hi 0 (.slice none 0 0) []) := ⟨by rw [washTo_zero]; exact h, World.ownsRow_nil _ _ _ _, by simp, List.Pairwise.nil, Stp.refl _ _⟩
  have HEnd : Hid (∀ wr vo S, KcI w wr base r M v L lo hi L.length vo S → KCleanPost w base r M v L lo hi (.returned vo) wr) := fun wr vo S hK =>
    ⟨vo, S, rfl, by have := hK.perm; rwa [List.take_length] at this, hK.rise, hK.own, by have := hK.ref; rwa [washTo_all] at this, hK.stp⟩
  have HC : Hid (∀ wr i vo S, KcI w wr base r M v L lo hi i vo S → wr.cell? ⟨r, 1, none⟩ = some (.slice p L.length pc)) := fun wr i vo S hK => by rw [← hvs]; exact cell_at hK.ref.box rfl
  have HA : Hid (∀ i, i < L.length → ∃ gv, p = some ⟨gv, 0, none⟩ ∧ gv < w.heap.size) := fun i hi => by
    rcases hform with ⟨_, e⟩ | ⟨gv, e, _, hg, _⟩
    · rw [e] at hi; simp at hi
    · exact ⟨gv, e, hg⟩
  have HV := hide hvs
  have HL : Hid (L.length ≤ 1000000) := hl
  obtain ⟨n, hnL⟩ : ∃ n, n = L.length := ⟨_, rfl⟩
  rw [← hnL] at hle
  have HN := hide hnL
  have hn0 : n ≤ 1000000 := by rw [hnL]; exact hl
  have Hrl := hide hrl
  have Hv := hide hv
  clear h hform hvs hl hnL hrl hv
  go_enter Try.func18, Try.ntmps18
  go_wp2_with fail
  go_loopw [7, 8] (fun vo iv wr => ∃ (i : Nat) (S : List Ent), i ≤ n ∧ iv = num i ∧ KcI w wr base r M v L lo hi i vo S) (fun _ iv _ => n - (intOf iv).toNat)
  case atStart => exact ⟨0, [], by omega, rfl, hI0.out⟩
  case round =>
    clear hI0
    obtain ⟨i, S, hi0, rfl, hK⟩ := hrel
    have c1 := HC.out _ _ _ _ hK
    rw [← HN.out] at c1
    obtain ⟨po, co, rfl, hco, _⟩ := rowR_form hK.own
    by_cases hin : i < n
    · have p1 : (i : Int) < (n : Int) := by omega
      have hiL : i < L.length := by rw [← HN.out]; exact hin
      obtain ⟨gv, rfl, hgv⟩ := HA.out i hiL
      obtain ⟨e, he⟩ : ∃ e, e = L[i] := ⟨_, rfl⟩
      have hcs : wr.cell? ⟨gv, i * 3, none⟩ = some (num e.key) ∧ wr.cell? ⟨gv, i * 3 + 1, none⟩ = some (u64v e.val) ∧ wr.cell? ⟨gv, i * 3 + 2, none⟩ = some (.bool e.dirty) := by
        have hw := washTo_len lo hi L i
        have hiW : i < (washTo lo hi L i).length := by omega
        obtain ⟨x0, x1, x2⟩ := entC_cells hiW
        rw [washTo_at lo hi hiL hiW, ← he] at x0 x1 x2
        have hc := fun j u hu => hK.ref.row.cells (g := gv) (by rw [HV.out]; rfl) j u hu
        refine ⟨?_, ?_, ?_⟩
        · have := hc _ _ x0; rwa [addr_add', Nat.zero_add] at this
        · have := hc _ _ x1; rwa [addr_add', Nat.zero_add] at this
        · have := hc _ _ x2; rwa [addr_add', Nat.zero_add] at this
      obtain ⟨a0, a1, a2⟩ := hcs
      obtain ⟨wE, hwE⟩ : ∃ wE, wE = wr.alloc (entR e) := ⟨_, rfl⟩
      have gE : wr.grownBy wE none := by rw [hwE]; exact World.grownBy_alloc wr _ none
      have hbE : wE.heap[wr.heap.size]? = some (entR e) := by rw [hwE]; exact heap_alloc_new wr _
      have c1E : wE.cell? ⟨r, 1, none⟩ = some (.slice (some ⟨gv, 0, none⟩) n pc) := (cell_of_block (gE.block r (lt_of_cell c1) (by simp))).trans c1
      obtain ⟨b0, b1, b2⟩ := cells3R hbE
      have HwE : Hid (wE = wr.alloc (.cells #[num e.key, u64v e.val, .bool e.dirty] 40)) := hwE
      by_cases hd : isD lo hi e = true
      · obtain ⟨d1, d2, d3⟩ := isD_true hd
        obtain ⟨wF, hwF⟩ : ∃ wF, wF = wE.alloc (entR e) := ⟨_, rfl⟩
        obtain ⟨g, cap, W2, hrun, hcap, hJ⟩ := hK.start Hrl.out Hv.out HL.out e hwE hwF
        obtain ⟨m, hmS⟩ : ∃ m, m = S.length := ⟨_, rfl⟩
        have HB : Hid (∀ W3 k, KcJ w W3 base r M v L lo hi i g cap S e wr.heap.size k e → (k = 0 ∨ ∃ h : k - 1 < S.length, S[k - 1].key ≤ e.key) → W3.cell? ⟨r, 1, none⟩ = some (.slice (some ⟨gv, 0, none⟩) n pc) ∧ (∃ u, W3.cell? ⟨gv, i * 3 + 2, none⟩ = some u) ∧ W3.frozen? ⟨gv, i * 3 + 2, none⟩ = false ∧
            KcI w (W3.setCell ⟨gv, i * 3 + 2, none⟩ (.bool false)) base r M v L lo hi (i + 1) (.slice (some ⟨g, 0, none⟩) (m + 1) cap) (insL S e k)) := hide fun W3 k hJ3 hlo => by
          have hw := washTo_len lo hi L i
          have hiW : i < (washTo lo hi L i).length := by omega
          have ho := hJ3.ref.row
          have hvn := HV.out
          have hD := hJ3.done hvn hgv hiL he hd hK.rise hK.perm hlo rfl
          rw [insL_len e hJ3.kle, ← hmS] at hD
          obtain ⟨x0, x1, x2⟩ := entC_cells hiW
          have hc := ho.cells (g := gv) (by rw [hvn]; rfl) _ _ x2
          rw [addr_add', Nat.zero_add] at hc
          refine ⟨by rw [HN.out, ← hvn]; exact cell_at hJ3.ref.box rfl, ⟨_, hc⟩, ?_, hD⟩
          rcases ho.2 with ⟨e1, _⟩ | ⟨g', cap', cur, e1, h1, h2, _⟩
          · have := congrArg Value.ownBlock (hvn.symm.trans e1)
            cases this
          · have e2 := congrArg Value.ownBlock (hvn.symm.trans e1)
            obtain rfl : gv = g' := Option.some.inj e2
            exact free_at h2
        have HwF : Hid (wF = wE.alloc (.cells #[num e.key, u64v e.val, .bool e.dirty] 40)) := hwF
        have HRun := hide hrun
        have HJ0 := hide hJ
        have hm : S.length ≤ 1000000 := by have := hK.few; have := HL.out; omega
        rw [d1] at a2 b2 HwE HwF
        clear hd hK hbE gE hwE hwF he hgv hiL d1 hrun hJ
        rw [← hmS] at hcap hco hm HRun HJ0 ⊢
        have Hm := hide hmS
        clear hmS
        go_wp2_with (first | rw [← HwE.out] | rw [← HwF.out] | refine wpList_append_by (W := wF) (W2 := W2) (t := 29) (sv := .slice po m co) (yv := .slice (some ⟨wE.heap.size, 0, none⟩) 1 1) (v' := .slice (some ⟨g, 0, none⟩) (m + 1) cap) rfl (.tmp 44) (.tmp 46) rfl rfl rfl HRun.out ?_)
        go_loopw [10] (fun kv wq => ∃ (k : Nat) (z : Ent), kv = num k ∧ KcJ w wq base r M v L lo hi i g cap S e wr.heap.size k z) (fun kv _ => (intOf kv).toNat)
        case atStart => exact ⟨m, e, rfl, HJ0.out⟩
        case round =>
          clear HJ0 HRun HwE HwF a0 a1 a2 b0 b1 b2 c1 c1E
          obtain ⟨k, z, rfl, hJ⟩ := hrel
          obtain ⟨y0, y1, y2⟩ := cells3R hJ.box
          have hkm := hJ.kle
          rw [← Hm.out] at hkm
          have HJ := hide (fun q => hJ.grown (grownBy_drewN (grownBy_refl _ _) q))
          cases k with
          | zero =>
            have HBx := hide (fun W3 h3 => HB.out W3 0 h3 (.inl rfl))
            clear HB hJ
            go_wp2_with fail
            go_quiet (fail)
            go_wp2_with (refine wpList_store_kcj rfl (.tmp 74) (.tmp 73) rfl (HJ.out _) Hrl.out Hv.out e rfl rfl fun W3 hJ3 => ?_; obtain ⟨b1, ⟨u, b2⟩, b3, hD⟩ := HBx.out W3 hJ3; have HD := hide hD; clear hJ3 hD)
            go_roundw
            case rel => exact ⟨i + 1, insL S e 0, by omega, by go_num, HD.out⟩
            case measure => simp [intOf]; omega
          | succ k =>
            obtain ⟨hS, z0, z1, z2⟩ := hJ.low (j := k) (by omega)
            obtain ⟨y, hy⟩ : ∃ y, y = S[k] := ⟨_, rfl⟩
            have HBx := hide (fun W3 h3 hle => HB.out W3 (k + 1) h3 (.inr ⟨hS, hle⟩))
            simp only [Nat.add_sub_cancel] at HBx
            rw [← hy] at z0 z1 z2 HBx
            have p0 : (0 : Int) < ((k + 1 : Nat) : Int) := by omega
            have p3 : k < m + 1 := by omega
            have p4 : k + 1 < m + 1 := by omega
            have e9 : IntKind.i64.wrap (((k + 1 : Nat) : Int) - 1) = (k : Int) := by rw [IntKind.wrap_i64]; omega
            have HY := hide hy
            clear HB hJ hy
            by_cases hgt : e.key < y.key
            · have HS := hide hS
              have HG := hide hgt
              clear HBx
              go_wp2_with fail
              go_quiet (fail)
              go_wp2_with (refine wpList_store_kcj rfl (.tmp 68) (.tmp 67) rfl (HJ.out _) Hrl.out Hv.out y rfl rfl fun W3 hJ3 => ?_; have HJ3 := hide (hJ3.shift HS.out HY.out HG.out); clear hJ3)
              go_roundw
              case rel => exact ⟨k, y, by go_num, HJ3.out⟩
              case measure => simp [intOf]
            · have HBy := hide (fun W3 h3 => HBx.out W3 h3 (by omega))
              clear HBx
              go_wp2_with fail
              go_quiet (fail)
              go_wp2_with (refine wpList_store_kcj rfl (.tmp 74) (.tmp 73) rfl (HJ.out _) Hrl.out Hv.out e rfl rfl fun W3 hJ3 => ?_; obtain ⟨b1, ⟨u, b2⟩, b3, hD⟩ := HBy.out W3 hJ3; have HD := hide hD; clear hJ3 hD)
              go_roundw
              case rel => exact ⟨i + 1, insL S e (k + 1), by omega, by go_num, HD.out⟩
              case measure => simp [intOf]; omega
      · have hd' : isD lo hi e = false := by simpa using hd
        have HK := hide (hK.skip hiL (by rw [← he]; exact hd') gE)
        have hdd := isD_false hd'
        clear hd hd' hK hbE gE hwE he hgv hiL
        rcases hdd with h1 | ⟨h1, h2⟩ | ⟨h1, h2, h3⟩
        · rw [h1] at a2 b2 HwE
          clear h1
          go_wp2_with (rw [← HwE.out])
          go_roundw
          case rel => exact ⟨i + 1, S, by omega, by go_num, HK.out⟩
          case measure => simp [intOf]; omega
        · rw [h1] at a2 b2 HwE
          clear h1
          go_wp2_with (rw [← HwE.out])
          go_roundw
          case rel => exact ⟨i + 1, S, by omega, by go_num, HK.out⟩
          case measure => simp [intOf]; omega
        · rw [h1] at a2 b2 HwE
          clear h1
          go_wp2_with (rw [← HwE.out])
          go_roundw
          case rel => exact ⟨i + 1, S, by omega, by go_num, HK.out⟩
          case measure => simp [intOf]; omega
    · obtain rfl : i = n := by omega
      have p1 : ¬ (i : Int) < (i : Int) := by omega
      have HP := hide (HEnd.out wr _ S (by rw [← HN.out]; exact hK))
      clear hK
      go_wp2_with fail
      go_ret
      exact HP.out
end Lr
end Go.Proofs.Ytlgomaohfhgkpaa
