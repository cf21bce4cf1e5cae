/- Layer 4 (nand): an array that is made, die by die. -/
import Derived.Test.YtojamicakkecbabNo
namespace Go.Proofs.Ytojamicakkecbab
open Go.RowKit Go.Maps
namespace Nd
abbrev arrO (D B P Y : Nat) (ds mp : Nat) : Obj := .cells #[num D, num B, num P, num Y, .bool true, .slice (some ⟨ds, 0, none⟩) D D, .map (some mp), num 0, num 0, num 0, num 0, num 0, num 0] 60
abbrev boxO (D B P Y : Nat) : Obj := .cells #[num D, num B, num P, num Y] 26
/-- What holds while dies are made. -/
structure DiesRel (w wr : World) (lab : Lab) (M : Lay) (D B P Y bx k : Nat) : Prop where
  stp : Stp (fun _ => none) lab w wr
  lt : ∀ x, lab x ≠ none → x < wr.heap.size
  la : lab M.a = some .arr
  lds : lab M.ds = some .ds
  lmp : lab M.mp = some .mp
  lbx : lab bx = none
  oa : wr.heap[M.a]? = some (arrO D B P Y M.ds M.mp)
  om : wr.heap[M.mp]? = some (.map #[] 0)
  obx : wr.heap[bx]? = some (boxO D B P Y)
  there : There wr M.ds (D * 2)
  dies : ∀ d, d < k → At wr M.ds (d * 2) (num never) ∧ At wr M.ds (d * 2 + 1) (.slice (some ⟨M.bk d, 0, none⟩) B B) ∧ lab (M.bk d) = some (.bk d) ∧ ∀ b, b < B → BlkM wr lab P Y d b (M.bk d) (b * 7) Blk.new
theorem DiesRel.next {w wr w6 : World} {lab lab6 : Lab} {M : Lay} {D B P Y bx k g : Nat} (h : DiesRel w wr lab M D B P Y bx k) (hk : k < D) (hg6 : wr.grownBy w6 none) (ext : Ext lab lab6 wr w6) (hlg : lab6 g = some (.bk k)) (hbl : ∀ b, b < B → BlkM w6 lab6 P Y k b g (b * 7) Blk.new) :
    DiesRel w ((w6.setCell ⟨M.ds, k * 2, none⟩ (num never)).setCell ⟨M.ds, k * 2 + 1, none⟩ (.slice (some ⟨g, 0, none⟩) B B)) lab6 { M with bk := fun d => if d = k then g else M.bk d } D B P Y bx (k + 1) := by
  have old := ext.old
  have hlt : ∀ {x r}, lab x = some r → x < wr.heap.size := fun {x r} hr => h.lt x (by rw [hr]; simp)
  have e6 : ∀ {x r}, lab x = some r → w6.heap[x]? = wr.heap[x]? := fun {x r} hr => hg6.block x (hlt hr) (by simp)
  have hds6 := old _ _ h.lds
  have el : ∀ x, x ≠ M.ds → ((w6.setCell ⟨M.ds, k * 2, none⟩ (num never)).setCell ⟨M.ds, k * 2 + 1, none⟩ (.slice (some ⟨g, 0, none⟩) B B)).heap[x]? = w6.heap[x]? := fun x hx => by rw [setCell_else hx, setCell_else hx]
  have elr : ∀ x r, lab6 x = some r → r ≠ .ds → ((w6.setCell ⟨M.ds, k * 2, none⟩ (num never)).setCell ⟨M.ds, k * 2 + 1, none⟩ (.slice (some ⟨g, 0, none⟩) B B)).heap[x]? = w6.heap[x]? := fun x r hr hne => el x (by rintro rfl; rw [hds6] at hr; cases hr; exact hne rfl)
  have hbx : bx < wr.heap.size := lt_of_heap h.obx
  have hbd : bx ≠ M.ds := by rintro e; have := h.lbx; rw [e, h.lds] at this; cases this
  have hth6 : There w6 M.ds (D * 2) := h.there.of_heap (e6 h.lds)
  have hne : ∀ d, d < k → d ≠ k := fun d hd => by omega
  have hs6 : ((w6.setCell ⟨M.ds, k * 2, none⟩ (num never)).setCell ⟨M.ds, k * 2 + 1, none⟩ (.slice (some ⟨g, 0, none⟩) B B)).heap.size = w6.heap.size := by rw [setCell_size, setCell_size]
  have hdsn : w.heap.size ≤ M.ds := by
    rcases h.stp.own M.ds (by rw [h.lds]; simp) with e | e
    · exact absurd rfl e
    · exact e
  refine ⟨?_, fun x hx => by rw [hs6]; exact ext.lt x hx, old _ _ h.la, hds6, old _ _ h.lmp, ?_, ?_, ?_, ?_, (hth6.set _).set _, fun d hd => ?_⟩
  · refine (((h.stp.grown hg6).set (.inr hdsn) _).set (.inr hdsn) _).lab (fun x hx => ?_)
    rcases ext.new x hx with e | e
    · exact h.stp.own x e
    · exact .inr (Nat.le_trans h.stp.size e)
  · cases e : lab6 bx with
    | none => rfl
    | some r =>
      rcases ext.new bx (by simp [e]) with k | k
      · exact absurd h.lbx k
      · omega
  · rw [elr _ _ (old _ _ h.la) (by simp), e6 h.la]; exact h.oa
  · rw [elr _ _ (old _ _ h.lmp) (by simp), e6 h.lmp]; exact h.om
  · rw [el bx hbd, hg6.block bx hbx (by simp)]; exact h.obx
  · by_cases hdk : d = k
    · subst hdk
      obtain ⟨v0, a0⟩ := hth6 (d * 2) (by omega)
      obtain ⟨v1, a1⟩ := hth6 (d * 2 + 1) (by omega)
      simp only [if_true]
      refine ⟨(a0.set_same _).set_off (by omega) _, (a1.set_off (by omega) _).set_same _, hlg, fun b hb => ?_⟩
      refine (hbl b hb).kept (fun i v _ hv => hv.of_heap (elr _ _ hlg (by simp))) (fun r g' hr hg' => ⟨elr g' r hg' ?_, hg'⟩)
      rcases hr with rfl | ⟨_, rfl⟩ | rfl | ⟨_, rfl⟩ <;> simp
    · obtain ⟨a0, a1, a2, a3⟩ := h.dies d (by omega)
      simp only [hdk, if_false]
      refine ⟨((a0.of_heap (e6 h.lds)).set_off (by omega) _).set_off (by omega) _, ((a1.of_heap (e6 h.lds)).set_off (by omega) _).set_off (by omega) _, old _ _ a2, fun b hb => ?_⟩
      refine (a3 b hb).kept (fun i v _ hv => (hv.of_heap (e6 a2)).of_heap (elr _ _ (old _ _ a2) (by simp))) (fun r g' hr hg' => ⟨?_, old _ _ hg'⟩)
      rw [elr g' r (old _ _ hg') (by rcases hr with rfl | ⟨_, rfl⟩ | rfl | ⟨_, rfl⟩ <;> simp), e6 hg']
theorem cuts_made (w : World) (mp : Nat) (h : w.heap[mp]? = some (.map #[] 0)) : CutsM w mp (fun _ => none) 0 := by
  obtain ⟨es, clock, h1, h2, h3, h4⟩ := World.ownsMap_made (H := Unit) w Try.prog 3 (plainElem (H := Unit) Try.prog 3)
  have e : es = #[] ∧ clock = 0 := by
    have := heap_alloc_new w (.map #[] 0)
    rw [this] at h1
    simp at h1
    exact ⟨h1.1, h1.2.symm⟩
  obtain ⟨rfl, rfl⟩ := e
  refine ⟨0, .map [], ⟨#[], 0, h, h2, Nat.le_refl _, h4⟩, Nat.le_refl _, fun k => ?_, fun k v hv => ?_, fun k _ z => ?_⟩
  · simp [Maps.has]
  · simp at hv
  · simp [DataW.atKey]
/-- All dies are made. -/
theorem DiesRel.arr {w wr : World} {lab : Lab} {M : Lay} {D B P Y bx : Nat} (h : DiesRel w wr lab M D B P Y bx D) (hd : Dims (St.new D B P Y)) : Arr wr M (St.new D B P Y) lab := by
  have ra : ∀ o v, (#[num D, num B, num P, num Y, .bool true, .slice (some ⟨M.ds, 0, none⟩) D D, .map (some M.mp), num 0, num 0, num 0, num 0, num 0, num 0] : Array Value)[o]? = some v → At wr M.a o v := fun o v hv => At.of_row h.oa hv
  refine ⟨hd, h.la, h.lds, h.lmp, fun d hd => (h.dies d hd).2.2.1, h.lt, ra 0 _ rfl, ra 1 _ rfl, ra 2 _ rfl, ra 3 _ rfl, ra 4 _ rfl, ra 5 _ rfl, ra 6 _ rfl, fun i hi => ?_, cuts_made wr M.mp h.om, fun d hd => ⟨(h.dies d hd).1, (h.dies d hd).2.1⟩, fun d b hd hb => (h.dies d hd).2.2.2 b hb⟩
  have : i = 0 ∨ i = 1 ∨ i = 2 ∨ i = 3 ∨ i = 4 ∨ i = 5 := by omega
  rcases this with rfl | rfl | rfl | rfl | rfl | rfl <;> exact ra _ _ rfl
end Nd
end Go.Proofs.Ytojamicakkecbab
