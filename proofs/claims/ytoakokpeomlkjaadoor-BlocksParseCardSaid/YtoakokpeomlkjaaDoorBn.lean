/- Layer 7 (blocks): frames that leave through the marks of several ranges over functions. -/
import Derived.Test.YtoakokpeomlkjaaDoorBj
namespace Go.Proofs.YtoakokpeomlkjaaDoor
open Go.RowKit Go.Maps Go.Shelf
namespace Bk
def mk (r : Nat) : Deferred := { target := .collected r, args := #[] }
structure Marked (rs : List Nat) (w : World) : Prop where
  one : rs.Nodup
  at_ : ∀ r, r ∈ rs → w.heap[r]? = some (.deferred (some []))
theorem Marked.kept {rs : List Nat} {w w' : World} (h : Marked rs w) (e : ∀ g, g ∈ rs → w'.heap[g]? = w.heap[g]?) : Marked rs w' := ⟨h.one, fun r hr => (e r hr).trans (h.at_ r hr)⟩
theorem Marked.nil (w : World) : Marked [] w := ⟨List.nodup_nil, fun _ h => absurd h List.not_mem_nil⟩
theorem leaves_marks {F : Fence} {n : Nat} {P : Program} {fn : Func} {tmps : Array Value} {R : Ending → World → Prop} : ∀ (rs : List Nat) (w : World), Marked rs w →
    (∀ w', Stp (fun g => g ∈ rs) w w' → LeavesInM F n P fn tmps R [] .returning w') → LeavesInM F n P fn tmps R (rs.map mk) .returning w
  | [], w, _, h => h w (Stp.refl _ _)
  | r :: rs, w, hm, h => by
    obtain ⟨hr, hn⟩ := List.nodup_cons.1 hm.one
    refine ⟨by simp, .inl ⟨r, _, rfl, run_takeDeferred (hm.at_ r List.mem_cons_self), ?_⟩⟩
    have hg := grownBy_putObj' w r (.deferred none)
    have hs : Stp (fun g => g ∈ r :: rs) w (w.putObj r (.deferred none)) := ⟨hg.os, hg.tape, hg.output, hg.size, fun g hl hk => World.putObj_heap_other (fun e => hk (by rw [e]; exact List.mem_cons_self))⟩
    refine leaves_marks rs _ ⟨hn, fun q hq => (World.putObj_heap_other (by rintro rfl; exact hr hq)).trans (hm.at_ q (List.mem_cons_of_mem _ hq))⟩ fun w' s' => h w' (hs.trans (s'.more fun g hg => List.mem_cons_of_mem _ hg))
end Bk
end Go.Proofs.YtoakokpeomlkjaaDoor
