/- A tide, plainly: what a message never turns. -/
import Derived.Test.YtpmcecenhgppbaaJTEpt20
import Derived.Test.YtpmcecenhgppbaaJTEpt21
namespace Go.Proofs.Ytpmcecenhgppbaa
section
open Go.RowKit Go.Shelf

/-- what stays, and what only rises -/
structure Rise (S S' : Ts) : Prop where
  cl : S'.client = S.client
  li : S'.life = S.life
  ho : S'.hold = S.hold
  up : S.e < S'.e ∨ (S'.e = S.e ∧ S.n ≤ S'.n)
  ve : S.ver ≤ S'.ver
  he : S.held.length ≤ S.hold → S'.held.length ≤ S.hold
  ak : S.asked = 0 → S'.asked = 0
theorem Rise.refl (S : Ts) : Rise S S := ⟨rfl, rfl, rfl, .inr ⟨rfl, Int.le_refl _⟩, Int.le_refl _, id, id⟩
theorem Rise.trans {A B C : Ts} (h : Rise A B) (k : Rise B C) : Rise A C := by
  refine ⟨k.cl.trans h.cl, k.li.trans h.li, k.ho.trans h.ho, ?_, Int.le_trans h.ve k.ve, fun x => ?_, fun x => k.ak (h.ak x)⟩
  · rcases h.up with a | ⟨a, b⟩ <;> rcases k.up with c | ⟨c, d⟩
    · left; omega
    · left; omega
    · left; omega
    · right; exact ⟨by omega, by omega⟩
  · have := k.he (by rw [h.ho]; exact h.he x)
    rw [h.ho] at this; exact this
theorem rise_meet (S : Ts) (m : Pm) : Rise S (S.meet m).1 := by
  unfold Ts.meet
  by_cases h2 : m.kind = 2
  · rw [if_pos h2]
    by_cases ha : S.asks m.seq = true
    · rw [if_pos ha]
      have hq : S.asked ≠ 0 := by
        unfold Ts.asks at ha
        have := of_decide_eq_true ha
        omega
      by_cases h0 : S.ahead m = 0
      · rw [if_pos h0]
        unfold Ts.used Ts.newer
        by_cases h7 : m.err = 70
        · rw [if_pos h7]; exact ⟨rfl, rfl, rfl, .inr ⟨rfl, Int.le_refl _⟩, by show S.ver ≤ max S.ver m.vers; omega, id, fun x => absurd x hq⟩
        · rw [if_neg h7]; exact ⟨rfl, rfl, rfl, .inr ⟨rfl, Int.le_refl _⟩, by show S.ver ≤ max S.ver m.vers; omega, id, fun _ => rfl⟩
      · rw [if_neg h0]
        unfold Ts.holds
        split
        · rename_i hh
          exact ⟨rfl, rfl, rfl, .inr ⟨rfl, Int.le_refl _⟩, Int.le_refl _, fun _ => by show (S.held ++ [m]).length ≤ S.hold; rw [List.length_append, List.length_singleton]; exact hh.1, id⟩
        · exact Rise.refl S
    · rw [if_neg ha]; exact Rise.refl S
  · rw [if_neg h2]
    by_cases h0 : S.ahead m = 0
    · rw [if_pos h0]; exact Rise.refl S
    · rw [if_neg h0]
      split
      · refine ⟨rfl, rfl, rfl, .inr ⟨rfl, ?_⟩, by show S.ver ≤ max S.ver m.vers; omega, id, id⟩
        show S.n ≤ m.num
        unfold Ts.ahead at h0
        by_cases hn : S.n ≤ m.num
        · exact hn
        · rw [if_neg hn] at h0; exact absurd rfl h0
      · unfold Ts.holds
        split
        · rename_i hh
          exact ⟨rfl, rfl, rfl, .inr ⟨rfl, Int.le_refl _⟩, Int.le_refl _, fun _ => by show (S.held ++ [m]).length ≤ S.hold; rw [List.length_append, List.length_singleton]; exact hh.1, id⟩
        · exact Rise.refl S
theorem rise_without (S : Ts) (i : Nat) : Rise S (S.without i) := ⟨rfl, rfl, rfl, .inr ⟨rfl, Int.le_refl _⟩, Int.le_refl _, fun h => Nat.le_trans (List.length_eraseIdx_le _ _) h, id⟩
theorem rise_settle : ∀ (f : Nat) (S : Ts), Rise S (Ts.settleF f S).1
  | 0, S => Rise.refl S
  | f + 1, S => by
    unfold Ts.settleF
    cases hd : S.due with
    | none => exact Rise.refl S
    | some i =>
      simp only []
      cases hm : S.held[i]? with
      | none => exact Rise.refl S
      | some m => exact ((rise_without S i).trans (rise_meet _ m)).trans (rise_settle f _)
theorem rise_take (S : Ts) (m : Pm) : Rise S (S.take m).1 := by
  unfold Ts.take
  by_cases hc : S.counts m = true
  · rw [if_pos hc]
    have h1 : Rise S (S.begun m) := by
      unfold Ts.begun
      by_cases he : S.e < m.ep
      · rw [if_pos he]; exact ⟨rfl, rfl, rfl, .inl he, Int.le_refl _, fun _ => Nat.zero_le _, id⟩
      · rw [if_neg he]; exact Rise.refl S
    exact (h1.trans (rise_meet _ m)).trans (rise_settle _ _)
  · rw [if_neg hc]; exact Rise.refl S
theorem rise_ask (S : Ts) (q : Int) : (S.ask q).client = S.client ∧ (S.ask q).life = S.life ∧ (S.ask q).hold = S.hold ∧ (S.ask q).e = S.e ∧ (S.ask q).n = S.n ∧ (S.ask q).ver = S.ver ∧ ((S.ask q).held.length ≤ S.held.length) := ⟨rfl, rfl, rfl, rfl, rfl, rfl, List.length_filter_le _ _⟩
/-- a message that does not count turns nothing -/
theorem take_strange {S : Ts} {m : Pm} (h : S.counts m = false) : S.take m = (S, []) := by
  unfold Ts.take
  rw [if_neg (by rw [h]; simp)]
/-- the first one of a later epoch, while nothing is asked -/
theorem take_later {S : Ts} {m : Pm} (hk : m.kind = 2) (hc : m.client = S.client) (hl : m.life = S.life) (hm : Mk m.re m.im (S.e + 1) 0) (ha : S.asked = 0) : S.take m = (⟨S.client, S.life, S.e + 1, 0, S.ver, 0, [], [], S.hold⟩, [allA]) := by
  have hep : m.ep = S.e + 1 := hm.pa
  have hcn : S.counts m = true := by
    unfold Ts.counts
    rw [hep, hm.good, hk, hc, hl]
    simp
    omega
  have hb : S.begun m = ⟨S.client, S.life, S.e + 1, 0, S.ver, 0, [], [], S.hold⟩ := by
    unfold Ts.begun Ts.restart
    rw [hep, if_pos (by omega), ha]
  have hbA : S.begunA m = [allA] := by
    unfold Ts.begunA
    rw [hep, if_pos (by omega)]
  have hmt : (⟨S.client, S.life, S.e + 1, 0, S.ver, 0, [], [], S.hold⟩ : Ts).meet m = (⟨S.client, S.life, S.e + 1, 0, S.ver, 0, [], [], S.hold⟩, []) := by
    unfold Ts.meet
    rw [if_pos hk, if_neg (by unfold Ts.asks; simp; omega)]
  unfold Ts.take
  rw [if_pos hcn, hb, hbA, hmt]
  simp only []
  rw [Ts.settle_none rfl]; rfl
/-- a law's mark -/
theorem Lt.marke {w W : World} {t : Nat} {S : Ts} {F : Nat → Prop} (r : Lt w W t S F) : ∃ x y, Mk x y S.e S.n ∧ Op.floatEq .f64 x (floatOfInt .f64 S.e) = true ∧ Op.floatEq .f64 y (floatOfInt .f64 S.n) = true ∧ Calls Try.prog 19 #[.pointer (some ⟨t, 0, none⟩)] W fun e w' => e = .returned (.complex .f64 x y) ∧ W = w' := by
  obtain ⟨x, y, hmk, hc⟩ := lt_mark r
  have k : Mk (floatOfInt .f64 S.e) (floatOfInt .f64 S.n) S.e S.n := Mk.of hmk.e0 hmk.e1 hmk.n0 hmk.n1
  refine ⟨x, y, hmk, ?_, ?_, hc⟩
  · rw [floatEq_whole hmk.ha k.ha]; exact decide_eq_true rfl
  · rw [floatEq_whole hmk.hb k.hb]; exact decide_eq_true rfl
end
section
open Go.RowKit Go.Shelf

/-- a fresh break in memory -/
structure Fm where
  re : Nat
  im : Nat
  all : Bool
  ks : List Ky
  ak : Option Addr
  ck : Nat
def Fm.vk (f : Fm) : Value := .slice f.ak f.ks.length f.ck
def Fm.arr (f : Fm) : Array Value := #[.complex .f64 f.re f.im, .int .i64 0, .bool f.all, f.vk]
def Fm.vals (f : Fm) : List Value := f.arr.toList
def Fm.b (f : Fm) : Fb := ⟨part f.im, f.all, f.ks⟩
theorem Fm.len (f : Fm) : f.vals.length = 4 := rfl
theorem Fm.one (h : Fm) : h.arr.all (·.oneCell') = true := by simp [Fm.arr, Fm.vk, Value.oneCell']
theorem Fm.one' (h : Fm) : ∀ u ∈ h.vals, u.oneCell' = true := by
  have := h.one
  rw [Array.all_eq_true'] at this
  intro u hu
  exact this u (by simpa [Fm.vals] using hu)
def fc (l : List Fm) : List Value := l.flatMap Fm.vals
theorem fc_len (l : List Fm) : (fc l).length = l.length * 4 := by
  unfold fc
  induction l with
  | nil => rfl
  | cons a l ih => rw [List.flatMap_cons, List.length_append, ih, List.length_cons, Fm.len]; omega
theorem fc_app (a b : List Fm) : fc (a ++ b) = fc a ++ fc b := by unfold fc; rw [List.flatMap_append]
theorem fc_get (l : List Fm) (i j : Nat) (h : Fm) (hi : l[i]? = some h) (hj : j < 4) : (fc l)[i * 4 + j]? = h.vals[j]? := by
  induction l generalizing i with
  | nil => simp at hi
  | cons a l ih =>
    show (a.vals ++ fc l)[_]? = _
    cases i with
    | zero =>
      simp at hi
      subst hi
      rw [Nat.zero_mul, Nat.zero_add, List.getElem?_append_left (by rw [Fm.len]; exact hj)]
    | succ i =>
      rw [List.getElem?_append_right (by rw [Fm.len]; omega), Fm.len, show (i + 1) * 4 + j - 4 = i * 4 + j by omega]
      exact ih i (by simpa using hi)
theorem fc_one (l : List Fm) : ∀ u ∈ fc l, u.oneCell' = true := by
  intro u hu
  unfold fc at hu
  obtain ⟨p, _, hp⟩ := List.mem_flatMap.1 hu
  exact p.one' u hp
def RowF (w : World) (base : Nat) (v : Value) (l : List Fm) : Prop := w.ownsRow base 100 4 v l.length (fc l)
theorem RowF.below {w w' : World} {base : Nat} {v : Value} {l : List Fm} (h : RowF w base v l) (hb : Below w.heap.size w w') : RowF w' base v l := owns_below h hb
theorem owns_fm {w : World} {base n cap i : Nat} {a : Option Addr} {l : List Fm} {h : Fm} (hr : RowF w base (.slice a n cap) l) (hi : l[i]? = some h) : ∃ g, a = some ⟨g, 0, none⟩ ∧ n = l.length ∧ base ≤ g ∧ g < w.heap.size ∧ (∀ j v, h.arr[j]? = some v → w.cell? ⟨g, i * 4 + j, none⟩ = some v) := by
  have hlt : i < l.length := (List.getElem?_eq_some_iff.1 hi).1
  obtain ⟨N, hN⟩ : ∃ N, l.length = N + 1 := ⟨l.length - 1, by omega⟩
  unfold RowF at hr
  rw [hN] at hr
  obtain ⟨g, cap', e'⟩ := owns_form hr
  cases e'
  obtain ⟨hc, hf, _, _, hb, hg⟩ := owns_cells hr
  refine ⟨g, rfl, hN.symm, hb, hg, fun j v hv => ?_⟩
  have hj : j < 4 := (Array.getElem?_eq_some_iff.1 hv).1
  apply hc
  rw [fc_get l i j h hi hj]
  rw [Fm.vals, Array.getElem?_toList]; exact hv
/-- the document's tide -/
structure Dt where
  client : Int
  life : Int
  hold : Nat
  e : Int
  n : Int
  ver : Int
  seq : Int
  hv : Value
  hs : List Hm
  fv : Value
  fs : List Fm
def Dt.arr (s : Dt) : Array Value := #[.int .i64 s.client, .int .i64 s.life, .int .i64 s.hold, .int .i64 s.e, .int .i64 s.n, .int .i64 s.ver, .int .i64 s.seq, s.hv, s.fv]
def Dt.say (s : Dt) : Ts := ⟨s.client, s.life, s.e, s.n, s.ver, s.seq, s.fs.map Fm.b, s.hs.map Hm.m, s.hold⟩
def Dt.wr (s : Dt) (t k : Nat) : Prop := k = t ∨ s.hv.ownBlock = some k ∨ s.fv.ownBlock = some k
def Dt.blk (s : Dt) (t k : Nat) : Prop := s.wr t k ∨ (∃ h ∈ s.hs, h.ve.ownBlock = some k ∨ h.vk.ownBlock = some k) ∨ ∃ f ∈ s.fs, f.vk.ownBlock = some k
structure IsD (w : World) (B t : Nat) (s : Dt) : Prop where
  head : w.heap[t]? = some (.cells s.arr 71 (0, 0))
  bt : B ≤ t
  held : RowM w B s.hv s.hs
  each : ∀ h ∈ s.hs, Lists w B h ∧ Good s.e h.m
  fresh : RowF w B s.fv s.fs
  eachF : ∀ f ∈ s.fs, RowK w B f.vk f.ks ∧ f.ks.length * 24 ≤ LB ∧ Mk f.re f.im s.e (part f.im)
  e0 : 0 ≤ s.e
  e1 : s.e ≤ 1099511627776
  n0 : 0 ≤ s.n
  n1 : s.n ≤ 1099511627776
  ask0 : 0 ≤ s.seq
  lh : s.hs.length ≤ s.hold
  l8 : s.hold ≤ 8
theorem IsD.tt {w : World} {B t : Nat} {s : Dt} (h : IsD w B t s) : Tag w t 71 := ⟨_, _, h.head⟩
theorem IsD.wlt {w : World} {B t : Nat} {s : Dt} (h : IsD w B t s) {k : Nat} (hk : s.wr t k) : B ≤ k ∧ k < w.heap.size := by
  rcases hk with e | e | e
  · rw [e]; exact ⟨h.bt, h.tt.lt⟩
  · exact h.held.lt e
  · exact World.ownsRow.lt h.fresh k e
theorem IsD.lt {w : World} {B t : Nat} {s : Dt} (h : IsD w B t s) {k : Nat} (hk : s.blk t k) : B ≤ k ∧ k < w.heap.size := by
  rcases hk with e | ⟨m, hm, e | e⟩ | ⟨f, hf, e⟩
  · exact h.wlt e
  · exact World.ownsRow.lt (h.each m hm).1.es k e
  · exact World.ownsRow.lt (h.each m hm).1.ks k e
  · exact World.ownsRow.lt (h.eachF f hf).1 k e
/-- what a call writes is of the tide's make, a list of messages or of breaks -/
theorem IsD.wtag {w : World} {B t : Nat} {s : Dt} (h : IsD w B t s) {k : Nat} (hk : s.wr t k) : Tag w k 71 ∨ Tag w k 45 ∨ Tag w k 100 := by
  rcases hk with e | e | e
  · rw [e]; exact .inl h.tt
  · exact .inr (.inl (h.held.tag e))
  · exact .inr (.inr (Tag.own h.fresh e))
theorem IsD.wno {w : World} {B t : Nat} {s : Dt} (h : IsD w B t s) {k : Nat} (hk : s.wr t k) {ty : TypeId} (h1 : 71 ≠ ty) (h2 : 45 ≠ ty) (h3 : 100 ≠ ty) : ¬ Tag w k ty := by
  rcases h.wtag hk with e | e | e
  · exact e.two h1
  · exact e.two h2
  · exact e.two h3
theorem IsD.moved {w w' : World} {B t : Nat} {s : Dt} (h : IsD w B t s) (hm : ∀ k, s.blk t k → w'.heap[k]? = w.heap[k]?) : IsD w' B t s :=
  ⟨(hm t (.inl (.inl rfl))).trans h.head, h.bt, h.held.moved fun k hk => hm k (.inl (.inr (.inl hk))), fun m hh => ⟨(h.each m hh).1.moved fun k hk => hm k (.inr (.inl ⟨m, hh, hk⟩)), (h.each m hh).2⟩, owns_moved h.fresh fun k hk => hm k (.inl (.inr (.inr hk))), fun f hf => ⟨owns_moved (h.eachF f hf).1 fun k hk => hm k (.inr (.inr ⟨f, hf, hk⟩)), (h.eachF f hf).2⟩, h.e0, h.e1, h.n0, h.n1, h.ask0, h.lh, h.l8⟩
theorem IsD.below {w w' : World} {B t : Nat} {s : Dt} (h : IsD w B t s) (hb : Below w.heap.size w w') : IsD w' B t s := h.moved fun k hk => hb.block k (h.lt hk).2
/-- what one call leaves -/
structure SD (w w' : World) (B t : Nat) (s s' : Dt) : Prop where
  is : IsD w' B t s'
  only : Only (s.wr t) w w'
  nwr : ∀ k, s'.wr t k → s.wr t k ∨ w.heap.size ≤ k
  nblk : ∀ k, s'.blk t k → s.blk t k ∨ w.heap.size ≤ k
theorem SD.stay {w w' : World} {B t : Nat} {s : Dt} (h : IsD w B t s) (hb : Below w.heap.size w w') : SD w w' B t s s := ⟨h.below hb, Only.of hb, fun _ hk => .inl hk, fun _ hk => .inl hk⟩
theorem SD.trans {w w1 w2 : World} {B t : Nat} {s s1 s2 : Dt} (h : SD w w1 B t s s1) (k : SD w1 w2 B t s1 s2) : SD w w2 B t s s2 := by
  refine ⟨k.is, ⟨k.only.os.trans h.only.os, k.only.tape.trans h.only.tape, k.only.output.trans h.only.output, Nat.le_trans h.only.size k.only.size, fun i hi hs => ?_⟩, fun i hi => ?_, fun i hi => ?_⟩
  · refine (k.only.block i (Nat.lt_of_lt_of_le hi h.only.size) fun hn => ?_).trans (h.only.block i hi hs)
    rcases h.nwr i hn with e | e
    · exact hs e
    · omega
  · rcases k.nwr i hi with e | e
    · exact h.nwr i e
    · exact .inr (Nat.le_trans h.only.size e)
  · rcases k.nblk i hi with e | e
    · exact h.nblk i e
    · exact .inr (Nat.le_trans h.only.size e)
theorem SD.on {w w' w2 : World} {B t : Nat} {s s' : Dt} (h : SD w w' B t s s') (hb : Below w'.heap.size w' w2) : SD w w2 B t s s' := h.trans (SD.stay h.is hb)
/-- from a world that only made something new -/
theorem SD.from {w w0 w' : World} {B t : Nat} {s s' : Dt} (h : SD w w' B t s s') (hb : Below w0.heap.size w0 w) : SD w0 w' B t s s' :=
  ⟨h.is, ⟨h.only.os.trans hb.os, h.only.tape.trans hb.tape, h.only.output.trans hb.output, Nat.le_trans hb.size h.only.size, fun i hi hs => (h.only.block i (Nat.lt_of_lt_of_le hi hb.size) hs).trans (hb.block i hi)⟩, fun k hk => (h.nwr k hk).imp id (Nat.le_trans hb.size), fun k hk => (h.nblk k hk).imp id (Nat.le_trans hb.size)⟩
/-- a number of the tide's stored -/
theorem IsD.cells {w : World} {B t : Nat} {s : Dt} (h : IsD w B t s) : w.cell? ⟨t, 0, none⟩ = some (.int .i64 s.client) ∧ w.cell? ⟨t, 1, none⟩ = some (.int .i64 s.life) ∧ w.cell? ⟨t, 2, none⟩ = some (.int .i64 s.hold) ∧ w.cell? ⟨t, 3, none⟩ = some (.int .i64 s.e) ∧ w.cell? ⟨t, 4, none⟩ = some (.int .i64 s.n) ∧ w.cell? ⟨t, 5, none⟩ = some (.int .i64 s.ver) ∧ w.cell? ⟨t, 6, none⟩ = some (.int .i64 s.seq) ∧ w.cell? ⟨t, 7, none⟩ = some s.hv ∧ w.cell? ⟨t, 8, none⟩ = some s.fv ∧ ∀ i, w.frozen? ⟨t, i, none⟩ = false :=
  ⟨cell_of h.head 0, cell_of h.head 1, cell_of h.head 2, cell_of h.head 3, cell_of h.head 4, cell_of h.head 5, cell_of h.head 6, cell_of h.head 7, cell_of h.head 8, free_of h.head⟩
/-- a store into the head: the rest stays -/
theorem IsD.put {w : World} {B t : Nat} {s : Dt} (h : IsD w B t s) (s' : Dt) (i : Nat) (v : Value) (ha : s.arr.setIfInBounds i v = s'.arr) (hh : s'.hv = s.hv ∧ s'.hs = s.hs ∧ s'.fv = s.fv ∧ s'.fs = s.fs ∧ s'.e = s.e ∧ s'.hold = s.hold) (hn : 0 ≤ s'.n ∧ s'.n ≤ 1099511627776 ∧ 0 ≤ s'.seq) : SD w (w.setCell ⟨t, i, none⟩ v) B t s s' := by
  obtain ⟨e1, e2, e3, e4, e5, e6⟩ := hh
  have ho := only1 w t i v
  have hne : ∀ k, s.blk t k → k ≠ t → (w.setCell ⟨t, i, none⟩ v).heap[k]? = w.heap[k]? := fun k hk hk2 => ho.block k (h.lt hk).2 hk2
  have hlt : ∀ {k ty}, Tag w k ty → 71 ≠ ty → k ≠ t := fun hk hty e => by rw [e] at hk; exact h.tt.two hty hk
  refine ⟨⟨?_, h.bt, ?_, fun m hm => ?_, ?_, fun f hf => ?_, by rw [e5]; exact h.e0, by rw [e5]; exact h.e1, hn.1, hn.2.1, hn.2.2, by rw [e2, e6]; exact h.lh, by rw [e6]; exact h.l8⟩, ho.mono fun k hk => .inl hk, fun k hk => .inl ?_, fun k hk => .inl ?_⟩
  · rw [← ha]; exact heap_set h.head i v
  · rw [e1, e2]; exact h.held.moved fun k hk => hne k (.inl (.inr (.inl hk))) (hlt (h.held.tag hk) (by decide))
  · rw [e2] at hm
    rw [e5]
    exact ⟨(h.each m hm).1.only ho fun q hq => ⟨by rw [hq]; exact h.tt.two (by decide), by rw [hq]; exact h.tt.two (by decide)⟩, (h.each m hm).2⟩
  · rw [e3, e4]; exact owns_moved h.fresh fun k hk => hne k (.inl (.inr (.inr hk))) (hlt (Tag.own h.fresh hk) (by decide))
  · rw [e4] at hf
    rw [e5]
    exact ⟨owns_moved (h.eachF f hf).1 fun k hk => hne k (.inr (.inr ⟨f, hf, hk⟩)) (hlt (Tag.own (h.eachF f hf).1 hk) (by decide)), (h.eachF f hf).2⟩
  · unfold Dt.wr at hk ⊢; rw [e1, e3] at hk; exact hk
  · unfold Dt.blk Dt.wr at hk ⊢; rw [e1, e2, e3, e4] at hk; exact hk
set_option maxHeartbeats 2000000 in
theorem newer_d (t B : Nat) (s : Dt) (v : Int) (w : World) (h : IsD w B t s) : Calls Try.prog 54 #[.pointer (some ⟨t, 0, none⟩), .int .i64 v] w fun e w' => e = .returned (.tuple #[]) ∧ SD w w' B t s { s with ver := max s.ver v } := by
  obtain ⟨-, -, -, -, -, c5, -, -, -, cf⟩ := h.cells
  have HI : Hid (IsD w B t s) := h
  obtain ⟨vr, hvr⟩ : ∃ vr, s.ver = vr := ⟨_, rfl⟩
  rw [hvr] at c5
  by_cases hv : vr < v
  · have HE : Hid (max s.ver v = v) := by show max s.ver v = v; omega
    clear h hvr
    go_enter Try.func54, Try.ntmps54
    go_wp2
    go_end0
    refine ⟨rfl, ?_⟩
    rw [HE.out]
    exact HI.out.put { s with ver := v } 5 (.int .i64 v) rfl ⟨rfl, rfl, rfl, rfl, rfl, rfl⟩ ⟨HI.out.n0, HI.out.n1, HI.out.ask0⟩
  · have HE : Hid (max s.ver v = s.ver) := by show max s.ver v = s.ver; omega
    clear h hvr
    go_enter Try.func54, Try.ntmps54
    go_wp2
    go_end0
    refine ⟨rfl, ?_⟩
    rw [HE.out]
    exact SD.stay HI.out (Below.refl _ _)
theorem mark_d (t B : Nat) (s : Dt) (w : World) (h : IsD w B t s) : Calls Try.prog 39 #[.pointer (some ⟨t, 0, none⟩)] w fun e w' => e = .returned (.complex .f64 (floatOfInt .f64 s.e) (floatOfInt .f64 s.n)) ∧ Below w.heap.size w w' := by
  obtain ⟨-, -, -, c3, c4, -, -, -, -, -⟩ := h.cells
  clear h
  go_enter Try.func39, Try.ntmps39
  go_upto_region 1 with fail
  go_quiet (fail)
  go_wp2
  go_ret
  exact ⟨rfl, below_drewN (Below.refl _ _) _⟩
end
section
open Go.RowKit Go.Shelf

theorem eqKs (w : World) (a b : Int) (x y : ByteArray) : (binOp .eql 53 (.agg #[.int .i64 a, .string x]) (.agg #[.int .i64 b, .string y])).run Try.prog w = .ok (.bool (eqKy ⟨a, x⟩ ⟨b, y⟩)) w := eqK w a b x y
attribute [local go_sem high] eqKs guardK
theorem inK_step {ks : List Ky} {i : Nat} {p k : Ky} (h : ks[i]? = some p) (h0 : inK (ks.take i) k = false) (h1 : eqKy p k = false) : inK (ks.take (i + 1)) k = false := by
  unfold inK at h0 ⊢
  rw [List.take_add_one, h, List.any_append, h0]
  simp [h1]
theorem inK_yes {ks : List Ky} {i : Nat} {p k : Ky} (h : ks[i]? = some p) (h1 : eqKy p k = true) : inK ks k = true := by
  unfold inK
  rw [List.any_eq_true]
  exact ⟨p, List.mem_of_getElem? h, h1⟩
set_option maxHeartbeats 4000000 in
set_option maxRecDepth 100000 in
theorem names_d (f : Fm) (k : Ky) (B : Nat) (w : World) (h : RowK w B f.vk f.ks) (hl : f.ks.length * 24 ≤ LB) : Calls Try.prog 55 #[.agg f.arr, .agg #[.int .i64 k.d, .string k.nm]] w fun e w' => e = .returned (.bool (f.b.names k)) ∧ Below w.heap.size w w' := by
  obtain ⟨re, im, all, ks, ak, ck⟩ := f
  obtain ⟨kd, kn⟩ := k
  replace h : RowK w B (.slice ak ks.length ck) ks := h
  replace hl : ks.length * 24 ≤ LB := hl
  unfold LB at hl
  obtain ⟨n, hn⟩ : ∃ n, ks.length = n := ⟨_, rfl⟩
  have HN : Hid (ks.length = n) := hn
  have hn2 : n ≤ 9223372036854775806 := by omega
  rw [hn] at h
  show Calls Try.prog 55 #[.agg #[.complex .f64 re im, .int .i64 0, .bool all, .slice ak ks.length ck], .agg #[.int .i64 kd, .string kn]] w _
  rw [hn]
  obtain ⟨W1, hW1⟩ : ∃ W1, w.alloc (.cells #[.complex .f64 re im, .int .i64 0, .bool all, .slice ak n ck] 100) = W1 := ⟨_, rfl⟩
  obtain ⟨W2, hW2⟩ : ∃ W2, W1.alloc (.cells #[.int .i64 kd, .string kn] 53) = W2 := ⟨_, rfl⟩
  have b1 := boxB hW1
  have b2 := boxB hW2
  have HB : Hid (Below w.heap.size w W2) := chainB b1.2 b2.2
  obtain ⟨g1, hg1⟩ : ∃ g, w.heap.size = g := ⟨_, rfl⟩
  obtain ⟨g2, hg2⟩ : ∃ g, W1.heap.size = g := ⟨_, rfl⟩
  have hx1 : W2.heap[g1]? = some (.cells #[.complex .f64 re im, .int .i64 0, .bool all, .slice ak n ck] 100 (0, 0)) := by rw [← hg1]; exact hkeep b1.1 b2.2
  have hx2 : W2.heap[g2]? = some (.cells #[.int .i64 kd, .string kn] 53 (0, 0)) := by rw [← hg2]; exact b2.1
  have HC : Hid (∀ V, Below W2.heap.size W2 V → V.cell? ⟨g1, 2, none⟩ = some (.bool all) ∧ V.cell? ⟨g1, 3, none⟩ = some (.slice ak n ck) ∧ V.cell? ⟨g2, 0, none⟩ = some (.int .i64 kd) ∧ V.cell? ⟨g2, 1, none⟩ = some (.string kn) ∧ RowK V B (.slice ak n ck) ks) := fun V hV => ⟨cell_of (hkeep hx1 hV) 2, cell_of (hkeep hx1 hV) 3, cell_of (hkeep hx2 hV) 0, cell_of (hkeep hx2 hV) 1, (h.below HB.out).below hV⟩
  clear hl hn h b1 b2 hx1 hx2
  cases all with
  | true =>
    obtain ⟨c2, -⟩ := HC.out W2 (Below.refl _ _)
    go_enter Try.func55, Try.ntmps55
    go_wp2
    go_ret
    exact ⟨rfl, by first | exact HB.out | (rw [← hg1]; exact HB.out)⟩
  | false =>
    obtain ⟨c2, -⟩ := HC.out W2 (Below.refl _ _)
    go_enter Try.func55, Try.ntmps55
    go_wp2
    clear c2 hW1 hW2
    go_loopw [5] (fun s5 wr => ∃ i : Nat, i ≤ n ∧ s5 = .int .i64 i ∧ Hid (inK (ks.take i) ⟨kd, kn⟩ = false ∧ inK (ks.take i) ⟨kd, ⟨#[]⟩⟩ = false ∧ Below W2.heap.size W2 wr)) (fun s5 _ => n - (intOf s5).toNat)
    case atStart => exact ⟨0, Nat.zero_le _, rfl, rfl, rfl, Below.refl _ _⟩
    case round =>
      obtain ⟨i, hi, rfl, HR⟩ := hrel
      obtain ⟨-, c3, d0, d1, hrow⟩ := HC.out wr HR.out.2.2
      by_cases hlt : i < n
      · have hlz : (i : Int) < (n : Int) := by omega
        have hi0 : (0 : Int) ≤ (i : Int) := by omega
        obtain ⟨⟨pd, pn⟩, hp⟩ : ∃ p, ks[i]? = some p := ⟨_, List.getElem?_eq_getElem (by rw [HN.out]; exact hlt)⟩
        obtain ⟨g, rfl, -, -, x0, x1, -⟩ := hrow.key hp
        have HP : Hid (ks[i]? = some ⟨pd, pn⟩) := hp
        clear hrow hp
        cases q1 : eqKy ⟨pd, pn⟩ ⟨kd, kn⟩ with
        | true =>
          have HQ : Hid (eqKy ⟨pd, pn⟩ ⟨kd, kn⟩ = true) := q1
          go_upto_region 6 with fail
          go_quiet (fail)
          go_wp2
          go_ret
          refine ⟨?_, by rw [← hg1]; exact below_drewN (chainB HB.out HR.out.2.2) _⟩
          unfold Fb.names Fm.b
          simp only []
          rw [inK_yes HP.out HQ.out]; rfl
        | false =>
          cases q2 : eqKy ⟨pd, pn⟩ ⟨kd, ⟨#[]⟩⟩ with
          | true =>
            have HQ : Hid (eqKy ⟨pd, pn⟩ ⟨kd, ⟨#[]⟩⟩ = true) := q2
            go_upto_region 6 with fail
            go_quiet (fail)
            go_wp2
            go_ret
            refine ⟨?_, by rw [← hg1]; exact below_drewN (chainB HB.out HR.out.2.2) _⟩
            unfold Fb.names Fm.b bare
            simp only []
            rw [inK_yes HP.out HQ.out]; simp
          | false =>
            have HQ : Hid (eqKy ⟨pd, pn⟩ ⟨kd, kn⟩ = false ∧ eqKy ⟨pd, pn⟩ ⟨kd, ⟨#[]⟩⟩ = false) := ⟨q1, q2⟩
            go_upto_region 6 with fail
            go_quiet (fail)
            go_wp2
            exact ⟨⟨i + 1, by omega, by simp, inK_step HP.out HR.out.1 HQ.out.1, inK_step HP.out HR.out.2.1 HQ.out.2, below_drewN HR.out.2.2 _⟩, by simp [intOf]; omega⟩
      · have hlz : ¬ (i : Int) < (n : Int) := by omega
        clear hrow
        go_wp2
        go_ret
        refine ⟨?_, by rw [← hg1]; exact chainB HB.out HR.out.2.2⟩
        have e1 : ks.take i = ks := List.take_of_length_le (by rw [HN.out]; omega)
        have h1 := HR.out.1
        have h2 := HR.out.2.1
        rw [e1] at h1 h2
        unfold Fb.names Fm.b bare
        simp only []
        rw [h1, h2]; rfl
end
end Go.Proofs.Ytpmcecenhgppbaa
