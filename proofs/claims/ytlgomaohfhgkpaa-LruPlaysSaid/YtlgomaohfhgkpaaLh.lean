/- Layer 10 (lru): room is made; an entry of a new key is put in. -/
import Derived.Test.YtlgomaohfhgkpaaLg
namespace Go.Proofs.Ytlgomaohfhgkpaa
open Go.RowKit Go.Maps
namespace Lr
/-- Within S, but for one block. -/
abbrev But (S : Nat → Prop) (r : Nat) : Nat → Prop := fun g => S g ∧ g ≠ r
theorem CL.but {w wA : World} {c : Nat} {most : Int} {S : Nat → Prop} {L : List Ent} (h : CL w c most S L) (hg : w.grownBy wA none) {r : Nat} (hr : w.heap.size ≤ r) : CL wA c most (But S r) L := by
  have h1 : CL w c most (But S r) L := h.less fun g hg2 hs => ⟨hs, by omega⟩
  exact h1.grown hg
theorem Stp.wide {S : Nat → Prop} {r : Nat} {a b : World} (h : Stp (But S r) a b) : Stp S a b := h.more fun _ k => k.1
def roomL (most : Int) (L : List Ent) : List Ent := if (L.length : Int) < most then L else L.dropLast
def roomE (most : Int) (L : List Ent) : Ent := if (L.length : Int) < most then zeroE else L.getLastD zeroE
theorem look_last {X : List Ent} {x : Ent} (h : ((X ++ [x]).map Ent.key).Nodup) : look (X ++ [x]) x.key = some x ∧ rest (X ++ [x]) x.key = X := by
  rw [List.map_append, List.nodup_append] at h
  have hX : ∀ y ∈ X, y.key ≠ x.key := fun y hy => h.2.2 _ (List.mem_map_of_mem hy) _ (by simp)
  refine ⟨look_mid hX rfl, ?_⟩
  have := rest_mid (Y := []) hX (by simp) rfl
  simpa using this
set_option maxRecDepth 8000 in
set_option maxHeartbeats 1600000 in
theorem makeRoom_ok {w : World} {c : Nat} {most : Int} {S : Nat → Prop} {L : List Ent} (h : CL w c most S L) (h1 : 1 ≤ most) :
    Calls Try.prog 27 #[ptr c] w fun r w' => r = .returned (.tuple #[entV (roomE most L), .bool (decide (most ≤ (L.length : Int)))]) ∧ CL w' c most S (roomL most L) ∧ Stp S w w' := by
  obtain ⟨wA, hwA⟩ : ∃ wA, wA = w.alloc zeroO := ⟨_, rfl⟩
  have hgA : w.grownBy wA none := by rw [hwA]; exact World.grownBy_alloc w _ none
  have hrA : wA.heap[w.heap.size]? = some zeroO := by rw [hwA]; exact heap_alloc_new w _
  have hCA : CL wA c most (But S w.heap.size) L := h.but hgA (Nat.le_refl _)
  have h0 := h
  have hon := h.once
  have hi := h.i64
  obtain ⟨m, e, bs, ent, pv, nx, K, hM, hL, hs, hB⟩ := h
  have hcl := lt_of_heap hM.box
  have hMlt := hM.lt
  have hMA : CacheM wA c m e most bs ent pv nx K := hM.stp (T := No) (.of_grown hgA) (fun k => k) (fun _ _ k => k)
  have hw := hide hwA
  have hr := hide hrA
  clear hwA
  have hl : ∀ n ty, (Builtin.len_ #[61] ty #[.map (some m)]).run Try.prog (wA.drewN n) = .ok (num bs.length) (wA.drewN n) := fun n ty => (hMA.map.of_heap (w' := wA.drewN n) rfl).len ty
  have hlen : bs.length = L.length := by rw [hL]; simp
  have c0 := hMA.most
  have c1 := hMA.cmap
  by_cases hlt : (L.length : Int) < most
  · have HP : Hid (∀ w1 w3, w1.heap = wA.heap → wA.grownBy w1 none → Stp (In [w.heap.size]) w1 w3 → (Ending.returned (.tuple #[.agg #[num 0, u64v 0, .bool false], .bool false]) = .returned (.tuple #[entV (roomE most L), .bool (decide (most ≤ (L.length : Int)))])) ∧ CL w3 c most S (roomL most L) ∧ Stp S w w3) := fun w1 w3 hh hg h3 => by
      have e1 : decide (most ≤ (L.length : Int)) = false := by simp; omega
      refine ⟨by rw [roomE, if_pos hlt, e1]; rfl, ?_, Stp.new (Stp.of_grown (grownBy_trans hgA hg)) h3⟩
      rw [roomL, if_pos hlt, hL]
      have hM1 := hMA.stp (T := No) (.of_grown hg) (fun k => k) (fun _ _ k => k)
      exact ⟨m, e, bs, ent, pv, nx, K, hM1.stp h3 (by simp; omega) (fun b hb => by have := hMlt b hb; simp; omega), rfl, hs, hB⟩
    have hnil : Hid (∀ n, (wA.drewN n).heap[w.heap.size]? = some (entO zeroE)) := fun n => hr.out
    have hdr : Hid (∀ n, wA.grownBy (wA.drewN n) none) := fun n => grownBy_drewN (grownBy_refl _ _) n
    rw [hlen] at hl
    clear h0 hM hB hs hMA hgA hMlt hcl hrA hCA hon hi hlen hL
    generalize L.length = n at *
    go_enter Try.func27, Try.ntmps27
    go_wp2_with (rw [← hw.out])
    go_quiet (fail)
    go_wp2_with (first | (refine wpList_store_ent rfl (.tmp 2) (.tmp 14) rfl w.heap.size zeroE zeroE rfl rfl (hnil.out _) fun w3 h3 hs3 => ?_))
    have HD := HP.out (wA.drewN nq) w3 rfl (hdr.out _) hs3
    obtain ⟨x0, x1, x2⟩ := cells3 h3
    exact bodyPost_ret (v := .tuple #[.agg #[num 0, u64v 0, .bool false], .bool false]) (by simp [results, Try.f27, go_sem, x0, x1, x2, zeroE]) rfl HD
  · obtain rfl | ⟨xs, b, rfl⟩ := List.eq_nil_or_concat bs
    · simp at hlen
      omega
    · have hpe : pv e = b := (Chn.split (xs := xs) (ys := []) (by simpa using hM.ring)).2.2
      have c2 := hMA.cend
      have c3 := (hMA.links e (by simp)).ahead
      rw [hpe] at c3
      have c4 := (hMA.links b (by simp)).key
      have hLe : L = xs.map ent ++ [ent b] := by rw [hL]; simp
      obtain ⟨q1, q2⟩ := look_last (by rw [hLe] at hon; exact hon)
      rw [← hLe] at q1 q2
      have hkey : I64 (ent b).key := hi _ (by rw [hLe]; simp)
      have hdl : L.dropLast = xs.map ent := by rw [hLe]; simp
      have hgl : L.getLastD zeroE = ent b := by rw [hLe]; simp
      have H2 : Hid (∀ n, Calls Try.prog 19 #[ptr c, num (ent b).key] (wA.drewN n) fun r w1 => r = .returned (.tuple #[entV (ent b), .bool true]) ∧ w1.heap[w.heap.size]? = some (entO zeroE) ∧
          ∀ w3, Stp (In [w.heap.size]) w1 w3 → (Ending.returned (.tuple #[entV (ent b), .bool true]) = .returned (.tuple #[entV (roomE most L), .bool (decide (most ≤ (L.length : Int)))])) ∧ CL w3 c most S (roomL most L) ∧ Stp S w w3) := fun n => by
        have hgn : wA.grownBy (wA.drewN n) none := grownBy_drewN (grownBy_refl _ _) n
        refine (Drop_ok (hCA.grown hgn) hkey).mono ?_
        rintro r w1 ⟨rfl, hC1, hs1⟩
        have hr1 : w1.heap[w.heap.size]? = some (entO zeroE) := hs1.obj (fun hx => hx.2 rfl) hr.out
        refine ⟨by rw [dropE, q1]; rfl, hr1, fun w3 h3 => ?_⟩
        have e1 : decide (most ≤ (L.length : Int)) = true := by simp; omega
        refine ⟨by rw [roomE, if_neg hlt, hgl, e1], ?_, Stp.new (((Stp.of_grown hgA).trans (Stp.of_grown hgn)).trans hs1.wide) h3⟩
        rw [roomL, if_neg hlt, hdl, ← q2]
        exact (hC1.stp h3 (fun g hg hx => hx.2 (List.mem_singleton.1 hg))).less fun g _ hx => hx.1
      generalize (ent b).key = kk at *
      clear h0 hM hB hs hMA hgA hMlt hcl hrA hCA hon hi hL q1 q2 hdl hgl hLe hpe
      rw [hlen] at hl
      clear hlen
      generalize L.length = n at *
      go_enter Try.func27, Try.ntmps27
      go_wp2_with (rw [← hw.out])
      go_quiet (fail)
      go_wp2_with fail
      refine (H2.out _).mono ?_
      rintro r w1 ⟨rfl, hr1, HP0⟩
      have HP := hide HP0
      have Hr1 := hide hr1
      clear HP0 hr1 H2
      go_wp2_with (first | (refine wpList_store_ent rfl (.tmp 2) (.tmp 28) rfl w.heap.size zeroE (ent b) rfl rfl Hr1.out fun w3 h3 hs3 => ?_))
      have HD := HP.out w3 hs3
      obtain ⟨x0, x1, x2⟩ := cells3 h3
      exact bodyPost_ret (v := .tuple #[entV (ent b), .bool true]) (by simp [results, Try.f27, go_sem, x0, x1, x2, entV]) rfl HD
end Lr
end Go.Proofs.Ytlgomaohfhgkpaa
