/- The same entries in another order: a mutation does the same. -/
import Derived.Test.YtjelggpkeogebaaPuE
namespace Go.Proofs.Ytjelggpkeogebaa
open Go.RowKit

theorem namedE_perm {M : Nms} {l m : List En} (hi : Ided l) (p : l.Perm m) (d : Int) (nm : ByteArray) : namedE M l d nm = namedE M m d nm := by unfold namedE; rw [dirE_perm hi p]
theorem madeE_perm {l m : List En} (hk : Keyed l) (p : l.Perm m) (d : Int) (nm : ByteArray) : madeE l d nm = madeE m d nm := by unfold madeE; rw [atE_perm hk p, p.length_eq]
theorem removedE_perm {l m : List En} (hk : Keyed l) (p : l.Perm m) (d : Int) (nm : ByteArray) (b : Bool) : removedE l d nm b = removedE m d nm b := by
  unfold removedE
  rw [atE_perm hk p]
  cases atE m d nm with
  | none => rfl
  | some e => simp only [namesN_perm p]
theorem renErr_perm {l m : List En} (p : l.Perm m) (e : En) (o : Option En) : renErr l e o = renErr m e o := by
  unfold renErr
  cases o with
  | none => rfl
  | some f => simp only [namesN_perm p]
theorem renamedE_perm {l m : List En} (hk : Keyed l) (hi : Ided l) (p : l.Perm m) (d : Int) (nm : ByteArray) (d2 : Int) (nm2 : ByteArray) : renamedE l d nm d2 nm2 = renamedE m d nm d2 nm2 := by
  rw [renamedE_at, renamedE_at, atE_perm hk p, atE_perm hk p]
  cases atE m d nm with
  | none => rfl
  | some e => simp only [withinF_perm hi p, p.length_eq, renErr_perm p]
theorem doesE_perm {M : Nms} {s d : Tr} (w : WF M s.es s.next) (p : s.es.Perm d.es) (o : Opn) : doesE M s o = doesE M d o := by
  unfold doesE
  rw [namedE_perm w.ided p, namedE_perm w.ided p, madeE_perm w.keyed p, removedE_perm w.keyed p, removedE_perm w.keyed p, renamedE_perm w.keyed w.ided p, atE_perm w.keyed p]
theorem renamedL_perm {l m : List En} (hk : Keyed l) (p : l.Perm m) (d : Int) (nm : ByteArray) (d2 : Int) (nm2 : ByteArray) : (renamedL l d nm d2 nm2).Perm (renamedL m d nm d2 nm2) := by
  rw [renamedL_at, renamedL_at, atE_perm hk p, atE_perm hk p]
  cases atE m d nm with
  | none => exact p
  | some e =>
    refine List.Perm.append_right _ (goneL_perm ?_ d nm)
    obtain ⟨b, hb⟩ : ∃ b, (if d2 = d ∧ nm2 = nm then none else atE m d2 nm2).isSome = b := ⟨_, rfl⟩
    rw [hb]
    cases b with
    | true => exact goneL_perm p _ _
    | false => exact p
theorem doesL_perm {M : Nms} {s d : Tr} (w : WF M s.es s.next) (p : s.es.Perm d.es) (hn : s.next = d.next) (o : Opn) : (doesL s o).Perm (doesL d o) := by
  unfold doesL
  rw [hn]
  split
  · exact p.append_right _
  · split
    · exact p.append_right _
    · split
      · exact p.append_right _
      · split
        · exact goneL_perm p _ _
        · split
          · exact renamedL_perm w.keyed p _ _ _ _
          · rw [setM_map w.rises.apart, setM_map (w.rises.apart.perm p)]
            exact p.map _
theorem doesN_perm {s d : Tr} (hn : s.next = d.next) (o : Opn) : doesN s o = doesN d o := by unfold doesN; rw [hn]
/-- the document's tree beside the program's: the same entries, in whatever order -/
structure Likes (s d : Tr) : Prop where
  es : s.es.Perm d.es
  vers : s.vers = d.vers
  next : s.next = d.next
theorem Likes.step {M : Nms} {s d s' d' : Tr} {o : Opn} (h : Likes s d) (w : WF M s.es s.next) (h1 : s'.es = srt (doesL s o)) (h2 : s'.vers = s.vers + 1) (h3 : s'.next = doesN s o) (k1 : d'.es = doesL d o) (k2 : d'.vers = d.vers + 1) (k3 : d'.next = doesN d o) : Likes s' d' :=
  ⟨by rw [h1, k1]; exact (srt_perm _).trans (doesL_perm w h.es h.next o), by rw [h2, k2, h.vers], by rw [h3, k3]; exact doesN_perm h.next o⟩
/-- what the document tells is what the program tells -/
theorem Likes.tell {M : Nms} {s d : Tr} {o : Opn} (h : Likes s d) (w : WF M s.es s.next) (hE : doesE M s o = 0) : tellL s o = (keysL o).map fun k => nowE (doesL d o) k.d k.nm := by
  rw [tell_doc w (deed w hE)]
  refine List.map_congr_left fun k _ => ?_
  exact nowE_perm (does_apart w (deed w hE)).keyed (doesL_perm w h.es h.next o) k.d k.nm
theorem Likes.srt {M : Nms} {s d : Tr} (h : Likes s d) (w : WF M s.es s.next) : srt d.es = s.es := w.rises.srt h.es
end Go.Proofs.Ytjelggpkeogebaa
