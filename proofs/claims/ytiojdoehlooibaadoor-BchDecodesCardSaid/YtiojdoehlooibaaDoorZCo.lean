/- A code in memory; the parity of data. -/
import Derived.Test.YtiojdoehlooibaaDoorZPc
import Derived.Deep.RegionWith
namespace Go.Proofs.YtiojdoehlooibaaDoor
open Go.RowKit
namespace Gf
/-- The parity's bits. -/
abbrev rS (m t : Nat) : Nat := (genS m t).length - 1
/-- A code that New made, at block c; its field at block b. -/
structure Cod (w : World) (c b m bytes t : Nat) : Prop where
  fld : Fld w b m
  free : Free w b c
  m4 : 4 ≤ m
  b1 : 1 ≤ bytes
  b2 : bytes ≤ 512
  t1 : 1 ≤ t
  t2 : t ≤ 8
  fits : 8 * bytes + m * t ≤ sz m
  c0 : w.cell? ⟨c, 0, none⟩ = some (ptr b)
  c1 : w.cell? ⟨c, 1, none⟩ = some (num bytes)
  c2 : w.cell? ⟨c, 2, none⟩ = some (num t)
  c3 : w.cell? ⟨c, 3, none⟩ = some (num (rS m t : Nat))
  tab : ∀ q, q < 256 → ∃ th tl, Ent8 (gB m t) q th tl ∧ w.cell? ⟨c, 4 + q * 2, none⟩ = some (.int .u64 (th : Nat)) ∧ w.cell? ⟨c, 4 + q * 2 + 1, none⟩ = some (.int .u64 (tl : Nat))
theorem Cod.of_block {w w' : World} {c b m bytes t : Nat} (h : Cod w c b m bytes t) (hF : Fld w' b m) (hf : Free w' b c) (e : w'.heap[c]? = w.heap[c]?) : Cod w' c b m bytes t := by
  have hc : ∀ o, w'.cell? ⟨c, o, none⟩ = w.cell? ⟨c, o, none⟩ := fun o => World.cell?_of_block (w := w) (a := ⟨c, o, none⟩) e
  exact ⟨hF, hf, h.m4, h.b1, h.b2, h.t1, h.t2, h.fits, by rw [hc]; exact h.c0, by rw [hc]; exact h.c1, by rw [hc]; exact h.c2, by rw [hc]; exact h.c3, fun q hq => by
    obtain ⟨th, tl, h1, h2, h3⟩ := h.tab q hq
    exact ⟨th, tl, h1, by rw [hc]; exact h2, by rw [hc]; exact h3⟩⟩
theorem Cod.lt {w : World} {c b m bytes t : Nat} (h : Cod w c b m bytes t) : c < w.heap.size := lt_of_cell h.c0
theorem Cod.more {w w' : World} {c b m bytes t : Nat} (h : Cod w c b m bytes t) (hg : w.grownBy w' none) : Cod w' c b m bytes t :=
  h.of_block (h.fld.more hg) (h.free.of_block (hg.block b h.fld.lt (by simp))) (hg.block c h.lt (by simp))
theorem Cod.step {w w' : World} {c b m bytes t : Nat} (h : Cod w c b m bytes t) (hs : Step b w w') (hF : Fld w' b m) : Cod w' c b m bytes t :=
  h.of_block hF (hs.free c h.lt h.free) (hs.heap h.lt h.free.1)
theorem Cod.em {w : World} {c b m bytes t : Nat} (h : Cod w c b m bytes t) : Em m := h.fld.em
theorem Cod.two {w : World} {c b m bytes t : Nat} (h : Cod w c b m bytes t) : 2 ≤ (genS m t).length := genS_two h.em h.t1
theorem Cod.r_le {w : World} {c b m bytes t : Nat} (h : Cod w c b m bytes t) : rS m t ≤ m * t := by have := genS_len h.em t; unfold rS; omega
theorem Cod.r_104 {w : World} {c b m bytes t : Nat} (h : Cod w c b m bytes t) : rS m t ≤ 104 := by
  have h1 := h.r_le
  have h2 : m * t ≤ 13 * 8 := Nat.mul_le_mul h.em.2 h.t2
  omega
set_option maxHeartbeats 400000 in
theorem cnone_ok {w : World} {c b m bytes t : Nat} (h : Cod w c b m bytes t) :
    Calls Tryd.prog 29 #[ptr c] w fun e w' => e = .returned (.bool false) ∧ w' = w := by
  have c0 := h.c0
  go_enter Tryd.func29, Tryd.ntmps29
  go_wp2
  go_ret
  exact ⟨rfl, rfl⟩
set_option maxHeartbeats 400000 in
theorem cnone_nil (w : World) : Calls Tryd.prog 29 #[.pointer none] w fun e w' => e = .returned (.bool true) ∧ w' = w := by
  go_enter Tryd.func29, Tryd.ntmps29
  go_wp2
  go_ret
  exact ⟨rfl, rfl⟩
set_option maxHeartbeats 400000 in
theorem cBits_ok {w : World} {c b m bytes t : Nat} (h : Cod w c b m bytes t) :
    Calls Tryd.prog 13 #[ptr c] w fun e w' => e = .returned (num (rS m t : Nat)) ∧ w' = w := by
  have c3 := h.c3
  go_enter Tryd.func13, Tryd.ntmps13
  go_wp2_with fail
  refine (cnone_ok h).mono ?_
  rintro e w1 ⟨rfl, rfl⟩
  go_wp2_with fail
  go_ret
  exact ⟨rfl, rfl⟩
set_option maxHeartbeats 400000 in
theorem cBits_nil (w : World) : Calls Tryd.prog 13 #[.pointer none] w fun e w' => e = .returned (num 0) ∧ w' = w := by
  go_enter Tryd.func13, Tryd.ntmps13
  go_wp2_with fail
  refine (cnone_nil w).mono ?_
  rintro e w1 ⟨rfl, rfl⟩
  go_wp2_with fail
  go_ret
  exact ⟨rfl, rfl⟩
/-- The parity's bytes. -/
abbrev pS (m t : Nat) : Nat := (rS m t + 7) / 8
set_option maxHeartbeats 400000 in
theorem cParity_ok {w : World} {c b m bytes t : Nat} (h : Cod w c b m bytes t) :
    Calls Tryd.prog 15 #[ptr c] w fun e w' => e = .returned (num (pS m t : Nat)) ∧ w' = w := by
  have h1 := h.r_104
  obtain ⟨R, hR⟩ : ∃ R, R = rS m t := ⟨_, rfl⟩
  have hb := cBits_ok h
  unfold pS
  rw [← hR] at h1 hb ⊢
  have HB : Hid (Calls Tryd.prog 13 #[ptr c] w _) := hb
  clear hb hR
  go_enter Tryd.func15, Tryd.ntmps15
  go_wp2_with fail
  refine HB.out.mono ?_
  rintro e w1 ⟨rfl, rfl⟩
  go_wp2_with fail
  go_ret
  exact ⟨ret_int (by omega), rfl⟩
set_option maxHeartbeats 400000 in
theorem cParity_nil (w : World) : Calls Tryd.prog 15 #[.pointer none] w fun e w' => e = .returned (num 0) ∧ w' = w := by
  go_enter Tryd.func15, Tryd.ntmps15
  go_wp2_with fail
  refine (cBits_nil w).mono ?_
  rintro e w1 ⟨rfl, rfl⟩
  go_wp2_with fail
  go_ret
  exact ⟨rfl, rfl⟩
set_option maxHeartbeats 400000 in
theorem cM_ok {w : World} {c b m bytes t : Nat} (h : Cod w c b m bytes t) :
    Calls Tryd.prog 12 #[ptr c] w fun e w' => e = .returned (num m) ∧ w' = w := by
  have c0 := h.c0
  go_enter Tryd.func12, Tryd.ntmps12
  go_wp2_with fail
  refine (cnone_ok h).mono ?_
  rintro e w1 ⟨rfl, rfl⟩
  go_wp2_with fail
  refine (m_ok h.fld).mono ?_
  rintro e w1 ⟨rfl, rfl⟩
  go_wp2_with fail
  go_ret
  exact ⟨rfl, rfl⟩
set_option maxHeartbeats 400000 in
theorem cM_nil (w : World) : Calls Tryd.prog 12 #[.pointer none] w fun e w' => e = .returned (num 0) ∧ w' = w := by
  go_enter Tryd.func12, Tryd.ntmps12
  go_wp2_with fail
  refine (cnone_nil w).mono ?_
  rintro e w1 ⟨rfl, rfl⟩
  go_wp2_with fail
  go_ret
  exact ⟨rfl, rfl⟩
end Gf
end Go.Proofs.YtiojdoehlooibaaDoor
