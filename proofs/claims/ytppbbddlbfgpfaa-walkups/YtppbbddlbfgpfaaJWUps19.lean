/- The program's tree: Apply. -/
import Derived.Test.YtppbbddlbfgpfaaJWUps18
import Derived.Test.YtppbbddlbfgpfaaJWUps06
namespace Go.Proofs.Ytppbbddlbfgpfaa
section
open Go.RowKit
attribute [local go_sem high] eqK' neqK' eqE neqE eqN neqN guardK guardE guardN

theorem Try.infoKy : (Try.prog.info? 28).map (fun i => (i.zero, i.size, i.bytes)) = some (some (.agg #[.int .i64 0, .string ⟨#[]⟩]), 2, 24) := by kernel_rfl
/-- the mutation of an op's kind -/
theorem mut_any (M : Nms) (hM : NmsP M) (t : Nat) (s : Tr) (o : Opn) (wf : WF M s.es s.next) (hnx : s.next ≠ 9223372036854775807) (h5 : 5 ≤ o.kind) (h11 : o.kind ≤ 11) :
    ∃ f, (∀ (w : World) (b : Nat), w.heap[b]? = some (.map (mutMap t) 7) → (Instr.lookup 95 (.map (some b)) (.int .i64 o.kind) true).run Try.prog w = .ok (.tuple #[mutF t f, .bool true]) w) ∧ (∀ args w, (callFunc f args).run Try.prog w = .ok (.enter f args) w) ∧
      ∀ w, IsP w t s → Calls Try.prog f #[.pointer (some ⟨t, 0, none⟩), .agg o.arr] w fun e w' => MutR w w' e (doesE M s o) (tellL s o) := by
  rcases (show o.kind = 5 ∨ o.kind = 6 ∨ o.kind = 7 ∨ o.kind = 8 ∨ o.kind = 9 ∨ o.kind = 10 ∨ o.kind = 11 by omega) with hk | hk | hk | hk | hk | hk | hk
  · exact ⟨57, fun w b hb => by rw [hk]; exact run_look w b t 5 0 _ hb rfl, enters_of Try.func57 (by kernel_rfl) rfl, fun w hw => create_p M hM t s o w hw wf.neg hnx hk⟩
  · exact ⟨58, fun w b hb => by rw [hk]; exact run_look w b t 6 1 _ hb rfl, enters_of Try.func58 (by kernel_rfl) rfl, fun w hw => mkdir_p M hM t s o w hw wf.neg hnx hk⟩
  · exact ⟨59, fun w b hb => by rw [hk]; exact run_look w b t 7 2 _ hb rfl, enters_of Try.func59 (by kernel_rfl) rfl, fun w hw => symlink_p M hM t s o w hw wf.neg hnx hk⟩
  · exact ⟨60, fun w b hb => by rw [hk]; exact run_look w b t 8 3 _ hb rfl, enters_of Try.func60 (by kernel_rfl) rfl, fun w hw => unlink_p M hM t s o w hw wf.neg hk⟩
  · exact ⟨61, fun w b hb => by rw [hk]; exact run_look w b t 9 4 _ hb rfl, enters_of Try.func61 (by kernel_rfl) rfl, fun w hw => rmdir_p M hM t s o w hw wf hk⟩
  · exact ⟨62, fun w b hb => by rw [hk]; exact run_look w b t 10 5 _ hb rfl, enters_of Try.func62 (by kernel_rfl) rfl, fun w hw => rename_p M hM t s o w hw wf hk⟩
  · exact ⟨63, fun w b hb => by rw [hk]; exact run_look w b t 11 6 _ hb rfl, enters_of Try.func63 (by kernel_rfl) rfl, fun w hw => setattr_p M hM t s o w hw wf.neg hk⟩

/-- the tree behind a mutation -/
structure Step (M : Nms) (s s' : Tr) (o : Opn) : Prop where
  es : s'.es = if doesE M s o = 0 then srt (doesL s o) else s.es
  vers : s'.vers = if doesE M s o = 0 then s.vers + 1 else s.vers
  next : s'.next = if doesE M s o = 0 then doesN s o else s.next
def toldE (M : Nms) (s : Tr) (o : Opn) : List En := if doesE M s o = 0 then tellL s o else []
def toldK (M : Nms) (s : Tr) (o : Opn) : List Ky := if doesE M s o = 0 then keysL o else []
def AppR (M : Nms) (t : Nat) (s : Tr) (o : Opn) (w w' : World) (e : Ending) : Prop :=
  ∃ v k s', e = .returned (.tuple #[v, k, .int .i64 (doesE M s o)]) ∧ PS w w' t s s' ∧ Step M s s' o ∧ Row7 w' w.heap.size v (toldE M s o) ∧ RowK w' w.heap.size k (toldK M s o) ∧ ∀ q, v.ownBlock = some q → s'.v.ownBlock ≠ some q
theorem AppR.no {M : Nms} {t : Nat} {s : Tr} {o : Opn} {w w' : World} {e : Ending} (hE : doesE M s o ≠ 0) (h : IsP w t s) (hb : Below w.heap.size w w') (he : e = .returned (.tuple #[.slice none 0 0, .slice none 0 0, .int .i64 (doesE M s o)])) : AppR M t s o w w' e :=
  ⟨_, _, s, he, PS.stay h hb, ⟨by rw [if_neg hE], by rw [if_neg hE], by rw [if_neg hE]⟩, by unfold toldE; rw [if_neg hE]; exact World.ownsRow_nil _ _ _ _, by unfold toldK; rw [if_neg hE]; exact World.ownsRow_nil _ _ _ _, fun q hq => by cases hq⟩
theorem tell_id {M : Nms} {s : Tr} {o : Opn} (w : WF M s.es s.next) (h : Deed M s o) : (∀ x ∈ tellL s o, x.neg = false → 2 ≤ x.id ∧ x.id ≤ s.next) ∧ (tellL s o).length ≤ 2 := by
  cases h using Deed.el with
  | made x _ _ _ _ hid _ _ _ _ _ _ hT => rw [hT]; have := w.next2; exact ⟨fun y hy _ => by rw [List.mem_singleton.1 hy, hid]; omega, by simp⟩
  | gone e _ _ _ _ _ hT => rw [hT]; exact ⟨(fun y hy hq => by rw [List.mem_singleton.1 hy] at hq; cases hq), by simp⟩
  | set e x he _ _ hx _ _ hT => rw [hT]; have := w.ids e he; exact ⟨fun y hy _ => by rw [List.mem_singleton.1 hy, hx]; show 2 ≤ e.id ∧ e.id ≤ _; omega, by simp⟩
  | moved e hk he _ _ _ _ _ _ _ hT =>
    have hi := w.ids e he
    rw [hT]
    refine ⟨fun y hy hq => ?_, by split <;> simp⟩
    have hy' : y = goneEn o.dir o.nm ∨ y = movedEn e o.dst o.new := by
      split at hy <;> simp at hy <;> first | exact hy | exact hy.symm
    rcases hy' with rfl | rfl
    · cases hq
    · show 2 ≤ e.id ∧ e.id ≤ _; omega
theorem putL_len (es : List En) (x : En) : (putL es x).length ≤ es.length + 1 := by
  unfold putL
  split
  · have := goneL_le es x.d x.nm; omega
  · rw [srt_len, List.length_append]; have := goneL_le es x.d x.nm; simp; omega
theorem putsL_len (es l : List En) : (putsL es l).length ≤ es.length + l.length := by
  induction l generalizing es with
  | nil => simp [putsL]
  | cons x l ih =>
    have := ih (putL es x)
    have h2 := putL_len es x
    have e1 : putsL es (x :: l) = putsL (putL es x) l := rfl
    rw [e1]; simp; omega
theorem putsL_snoc (es l : List En) (x : En) : putsL es (l ++ [x]) = putL (putsL es l) x := by unfold putsL; rw [List.foldl_append]; rfl
theorem nextL_snoc (n : Int) (l : List En) (x : En) : nextL n (l ++ [x]) = nextP (nextL n l) x := by unfold nextL nextP; rw [List.foldl_append]; rfl
theorem take_snoc {l : List En} {k : Nat} {x : En} (h : l[k]? = some x) : l.take (k + 1) = l.take k ++ [x] := by rw [List.take_add_one, h]; rfl
def keyOf (x : En) : Ky := ⟨x.d, x.nm⟩

theorem two_onek (x : En) : ∀ u ∈ [Value.int .i64 x.d, .string x.nm], u.oneCell' = true := by
  intro u hu
  simp at hu
  rcases hu with rfl | rfl <;> rfl
/-- behind one put: the box, the lists -/
theorem step_end {w wr W5 w6 : World} {t n : Nat} {s sk s6 : Tr} {x : En} {v u : Value} {L : List En} {K : List Ky} (h : PS w wr t s sk) (hb5 : Below wr.heap.size wr W5) (h6 : PS W5 w6 t sk s6) (hbx : W5.heap[wr.heap.size]? = some (.cells x.vals.toArray 42 (0, 0)))
    (hrow : Row7 wr n v L) (hvq : ∀ q, v.ownBlock = some q → sk.v.ownBlock ≠ some q) (hk : RowK wr n u K) :
    w6.cell? ⟨wr.heap.size, 0, none⟩ = some (.int .i64 x.d) ∧ w6.cell? ⟨wr.heap.size, 1, none⟩ = some (.string x.nm) ∧ Row7 w6 n v L ∧ (∀ q, v.ownBlock = some q → s6.v.ownBlock ≠ some q) ∧ RowK w6 n u K ∧ PS w w6 t s s6 := by
  have ht := h.is.tt.lt
  have hz : wr.heap.size < W5.heap.size := (Array.getElem?_eq_some_iff.1 hbx).1
  have hbx6 : w6.heap[wr.heap.size]? = some (.cells x.vals.toArray 42 (0, 0)) := (h6.keep hz (by omega) (fun e => by have := (h.is.tv e).lt; omega)).trans hbx
  have hlt : ∀ q, v.ownBlock = some q → q < wr.heap.size := fun q hq => (Tag.own hrow hq).lt
  have hltk : ∀ q, u.ownBlock = some q → q < wr.heap.size := fun q hq => (Tag.own hk hq).lt
  refine ⟨(cells7_of hbx6).c0, by have := (cells7_of hbx6).c1; simpa using this, owns_moved hrow fun q hq => ?_, fun q hq => ?_, owns_moved hk fun q hq => ?_, h.trans (h6.le hb5)⟩
  · have := hlt q hq
    exact (h6.keep (by omega) ((Tag.own hrow hq).ne h.is.tt (by decide)) (hvq q hq)).trans (hb5.block q this)
  · rcases h6.v with e | e
    · rw [e]; exact hvq q hq
    · intro hh; have := e q hh; have := hlt q hq; omega
  · have := hltk q hq
    exact (h6.keep (by omega) ((Tag.own hk hq).ne h.is.tt (by decide)) (fun e => (Tag.own hk hq).ne (h.is.tv e) (by decide) rfl)).trans (hb5.block q this)
/-- behind one round -/
theorem step_fin {w w6 w7 : World} {t n g c2 k : Nat} {s sk : Tr} {x : En} {u v6 v7 : Value} {TL : List En} {o : Obj} (h : PS w w6 t s { sk with v := v6, es := putL sk.es x, next := nextP sk.next x }) (hrow : Row7 w6 w.heap.size (.slice (some ⟨g, 0, none⟩) n c2) TL) (hvq : ∀ q, (Value.slice (some ⟨g, 0, none⟩) n c2).ownBlock = some q → v6.ownBlock ≠ some q) (hk : RowK w6 w.heap.size u ((TL.take k).map keyOf))
    (hown : w7.ownsRow w.heap.size 28 2 v7 (k + 1) (kc ((TL.take k).map keyOf) ++ [.int .i64 x.d, .string x.nm])) (hgrow : (w6.alloc o).grownBy w7 u.ownBlock) (e1 : sk.es = putsL s.es (TL.take k)) (e2 : sk.vers = s.vers + 1) (e3 : sk.next = nextL s.next (TL.take k)) (hx : TL[k]? = some x) (hn : TL.length = n) (hkn : k < n) :
    PS w w7 t s { sk with v := v6, es := putL sk.es x, next := nextP sk.next x } ∧ putL sk.es x = putsL s.es (TL.take (k + 1)) ∧ sk.vers = s.vers + 1 ∧ nextP sk.next x = nextL s.next (TL.take (k + 1)) ∧ Row7 w7 w.heap.size (.slice (some ⟨g, 0, none⟩) n c2) TL ∧ (∀ q, (Value.slice (some ⟨g, 0, none⟩) n c2).ownBlock = some q → v6.ownBlock ≠ some q) ∧ RowK w7 w.heap.size v7 ((TL.take (k + 1)).map keyOf) := by
  have hO : Only (fun q => u.ownBlock = some q) w6 w7 :=
    ⟨hgrow.os, hgrow.tape, hgrow.output, Nat.le_trans (by simp) hgrow.size, fun k hk hn => (hgrow.block k (by simp; omega) (fun e => hn e.symm)).trans (Below.heap_alloc _ _ _ hk)⟩
  have hku : ∀ q, u.ownBlock = some q → w.heap.size ≤ q ∧ q < w6.heap.size := fun q hq => World.ownsRow.lt hk q hq
  have hst : ∀ q ty, Tag w6 q ty → ty ≠ 28 → w7.heap[q]? = w6.heap[q]? := fun q ty hq hty => hO.block q hq.lt fun e => hq.ne (Tag.own hk e) hty rfl
  refine ⟨⟨h.is.moved (hst t _ h.is.tt (by decide)) (fun q hq => hst q _ (h.is.tv hq) (by decide)), ?_, h.v⟩, ?_, e2, ?_, owns_moved hrow fun q hq => hst q _ (Tag.own hrow hq) (by decide), hvq, ?_⟩
  · exact ⟨hO.os.trans h.only.os, hO.tape.trans h.only.tape, hO.output.trans h.only.output, Nat.le_trans h.only.size hO.size, fun q hq hs => (hO.block q (Nat.lt_of_lt_of_le hq h.only.size) (fun e => by have := (hku q e).1; omega)).trans (h.only.block q hq hs)⟩
  · rw [take_snoc hx, putsL_snoc, e1]
  · rw [take_snoc hx, nextL_snoc, e3]
  · unfold RowK
    rw [take_snoc hx, List.map_append]
    have hl : ((TL.take k).map keyOf ++ [x].map keyOf).length = k + 1 := by rw [List.length_append, List.length_map, List.length_take, hn]; simp; omega
    rw [hl]
    have : kc ((TL.take k).map keyOf ++ [x].map keyOf) = kc ((TL.take k).map keyOf) ++ [.int .i64 x.d, .string x.nm] := by unfold kc; rw [List.flatMap_append]; simp [keyOf]
    rw [this]; exact hown
set_option maxRecDepth 20000 in
set_option maxHeartbeats 16000000 in
theorem apply_p (M : Nms) (hM : NmsP M) (t : Nat) (s : Tr) (o : Opn) (w : World) (h : IsP w t s) (wf : WF M s.es s.next) (hnx : s.next < 9223372036854775807) (hv0 : 0 ≤ s.vers) (hv1 : s.vers < 9223372036854775807) :
    Calls Try.prog 23 #[.pointer (some ⟨t, 0, none⟩), .agg o.arr] w fun e w' => AppR M t s o w w' e := by
  obtain ⟨i1, hi1, hw0, hw1, hw2⟩ := info_parts Try.infoKy
  have H : Hid (IsP w t s) := h
  have hlt := h.tt.lt
  obtain ⟨E, hE⟩ : ∃ x, doesE M s o = x := ⟨_, rfl⟩
  have HE : Hid (doesE M s o = E) := hE
  obtain ⟨W, hW⟩ : ∃ W, w.alloc (.cells o.arr 65) = W := ⟨_, rfl⟩
  have hbW : Below w.heap.size w W := by rw [← hW]; exact below_alloc _ _
  have m0 : W.heap[w.heap.size]? = some (.cells o.arr 65 (0, 0)) := by rw [← hW]; exact heap_new _ _
  have HW : Hid (Below w.heap.size w W ∧ W.heap[w.heap.size]? = some (.cells o.arr 65 (0, 0))) := ⟨hbW, m0⟩
  have q0 : W.cell? ⟨w.heap.size, 0, none⟩ = some (.int .i64 o.kind) := by rw [cell_of m0]; rfl
  have HMu : Hid (∀ w, Calls Try.prog 36 #[.pointer (some ⟨t, 0, none⟩)] w fun e w' => e = .returned (.map (some w.heap.size)) ∧ w' = w.alloc (.map (mutMap t) 7)) := mutations_p t
  by_cases hk : o.kind < 5 ∨ 11 < o.kind
  · have hE1 : doesE M s o = 1 := by unfold doesE; rw [if_pos hk]
    have hl := run_look_no (W.alloc (.map (mutMap t) 7)).drew W.heap.size t o.kind (heap_new _ _) hk
    have HF : Hid (∀ (w' : World) (e : Ending), Below w.heap.size w w' → e = .returned (.tuple #[.slice none 0 0, .slice none 0 0, .int .i64 1]) → AppR M t s o w w' e) := fun w' e hb he => AppR.no (by rw [hE1]; decide) H.out hb (by rw [hE1]; exact he)
    clear hE hE1 h m0 hbW hk
    obtain ⟨ok, od, onm, odst, onew, omode, otg⟩ := o
    simp only [Opn.arr] at *
    go_enter Try.func23, Try.ntmps23
    go_upto_region 1 with fail
    clear hW
    go_region_held3 (fun w' => w'.cell? ⟨w.heap.size, 0, none⟩ = some (.int .i64 ok))
      (first | exact q0 | assumption | exact Lib.cell?_alloc_some _ q0)
      (first | (go_at_call 36; refine (HMu.out _).mono ?_; rintro x w1 ⟨rfl, rfl⟩))
    go_wp2
    go_ret3
    exact HF.out _ _ (chainB HW.out.1 ((below_alloc _ _).drew)) rfl
  · obtain ⟨f, hlk, ef, hmut⟩ := mut_any M hM t s o wf (by omega) (by omega) (by omega)
    have hl := hlk (W.alloc (.map (mutMap t) 7)).drew W.heap.size (heap_new _ _)
    obtain ⟨TL, hTL⟩ : ∃ x, tellL s o = x := ⟨_, rfl⟩
    rw [hE, hTL] at hmut
    have HMut : Hid (∀ w, IsP w t s → Calls Try.prog f #[.pointer (some ⟨t, 0, none⟩), .agg o.arr] w fun e w' => MutR w w' e E TL) := hmut
    have HFin : Hid (∀ w' e, E ≠ 0 → Below w.heap.size w w' → e = .returned (.tuple #[.slice none 0 0, .slice none 0 0, .int .i64 E]) → AppR M t s o w w' e) := fun w' e hz hb he => AppR.no (by rw [hE]; exact hz) H.out hb (by rw [hE]; exact he)
    have HYes : Hid (E = 0 → (∀ x ∈ TL, x.neg = false → 2 ≤ x.id ∧ x.id ≤ s.next) ∧ TL.length ≤ 2 ∧ putsL s.es TL = srt (doesL s o) ∧ nextL s.next TL = doesN s o ∧ TL.map keyOf = keysL o) := fun hz => by
      have hd := deed wf (hE.trans hz)
      rw [← hTL]
      exact ⟨(tell_id wf hd).1, (tell_id wf hd).2, puts_does wf hd, next_does wf hd, tell_keys hd⟩
    have HTL : Hid (tellL s o = TL) := hTL
    have HWF : Hid (Rises s.es ∧ s.es.length ≤ 47) := ⟨wf.rises, wf.len⟩
    unfold mutF at hl
    obtain ⟨oq, hoq⟩ : ∃ x, o = x := ⟨_, rfl⟩
    have HOq : Hid (o = oq) := hoq
    clear hE h m0 hbW hk hlk hmut hTL hM wf hoq
    obtain ⟨ok, od, onm, odst, onew, omode, otg⟩ := o
    simp only [Opn.arr] at HW hW HMut ⊢
    simp only at q0 hl
    go_enter Try.func23, Try.ntmps23
    go_upto_region 1 with fail
    clear hW
    go_region_held3 (fun w' => w'.cell? ⟨w.heap.size, 0, none⟩ = some (.int .i64 ok))
      (first | exact q0 | assumption | exact Lib.cell?_alloc_some _ q0)
      (first | (go_at_call 36; refine (HMu.out _).mono ?_; rintro x w1 ⟨rfl, rfl⟩))
    obtain ⟨W1, hW1⟩ : ∃ W1, (W.alloc (.map (mutMap t) 7)).drew = W1 := ⟨_, rfl⟩
    have hb1 : Below w.heap.size w W1 := by rw [← hW1]; exact chainB HW.out.1 ((below_alloc _ _).drew)
    have hop : W1.heap[w.heap.size]? = some (.cells #[.int .i64 ok, .int .i64 od, .string onm, .int .i64 odst, .string onew, .int .i64 omode, .string otg] 65 (0, 0)) := by rw [← hW1]; exact hkeep HW.out.2 ((below_alloc _ _).drew)
    rw [hW1]
    have p0 := cell_of hop 0
    have p1 := cell_of hop 1
    have p2 := cell_of hop 2
    have p3 := cell_of hop 3
    have p4 := cell_of hop 4
    have p5 := cell_of hop 5
    have p6 := cell_of hop 6
    simp at p0 p1 p2 p3 p4 p5 p6
    have HB1 : Hid (Below w.heap.size w W1) := hb1
    clear hW1 hb1 hop hl q0
    by_cases hz : E = 0
    · subst hz
      go_upto_region 7 with (go_at_fn f; refine (HMut.out _ (H.out.below HB1.out)).mono ?_; rintro x w2 ⟨v2, rfl, hr2, hb2⟩; rw [if_pos rfl] at hr2; have hbw2 := chainB HB1.out hb2; obtain ⟨-, z1, z2, zf⟩ := (H.out.below hbw2).cells; obtain ⟨a2, c2, rfl⟩ := owns_len hr2)
      have hvb : (s.vers == 9223372036854775807) = false := beq_eq_false_iff_ne.2 (by omega)
      have hwr : IntKind.i64.wrap (s.vers + 1) = s.vers + 1 := IntWalk.i64_in _ (by omega)
      obtain ⟨n, hn⟩ : ∃ n, TL.length = n := ⟨_, rfl⟩
      obtain ⟨hids, hl2, hputs, hnext, hkeys⟩ := HYes.out (by simp)
      rw [hn] at hl2 ⊢
      have hvq : ∀ q, (Value.slice a2 TL.length c2).ownBlock = some q → s.v.ownBlock ≠ some q := fun q hq e => by
        have h1 := (World.ownsRow.lt hr2 q hq).1
        have h2 := (H.out.tv e).lt
        have := HB1.out.size
        omega
      have HR : Hid (Row7 w2 w.heap.size (.slice a2 n c2) TL ∧ TL.length = n ∧ PS w w2 t s s ∧ (∀ q, (Value.slice a2 n c2).ownBlock = some q → s.v.ownBlock ≠ some q)) := ⟨by rw [← hn]; exact owns_le hr2 HB1.out.size, hn, PS.stay H.out hbw2, by rw [← hn]; exact hvq⟩
      have HIds : Hid (∀ x ∈ TL, x.neg = false → 2 ≤ x.id ∧ x.id ≤ s.next) := hids
      have HP : Hid (putsL s.es TL = srt (doesL s ⟨ok, od, onm, odst, onew, omode, otg⟩) ∧ nextL s.next TL = doesN s ⟨ok, od, onm, odst, onew, omode, otg⟩ ∧ TL.map keyOf = keysL ⟨ok, od, onm, odst, onew, omode, otg⟩) := ⟨hputs, hnext, hkeys⟩
      clear hids hputs hnext hkeys hvq hr2 hn hb2 hbw2 p0 p1 p2 p3 p4 p5 p6
      go_wp2
      obtain ⟨w3, hw3⟩ : ∃ w3, w2.setCell ⟨t, 1, none⟩ (.int .i64 (s.vers + 1)) = w3 := ⟨_, rfl⟩
      have hps3 : PS w w3 t s { s with vers := s.vers + 1 } := by rw [← hw3]; exact HR.out.2.2.1.vers _
      have hr3 : Row7 w3 w.heap.size (.slice a2 n c2) TL := by
        rw [← hw3]
        exact owns_moved HR.out.1 fun q hq => heap_set_ne ((Tag.own HR.out.1 hq).ne HR.out.2.2.1.is.tt (by decide))
      have H3 : Hid (PS w w3 t s { s with vers := s.vers + 1 } ∧ Row7 w3 w.heap.size (.slice a2 n c2) TL) := ⟨hps3, hr3⟩
      rw [hw3]
      clear hw3 hps3 hr3 z1 z2 zf
      go_loopw [5, 44] (fun u i wr => ∃ (k : Nat) (sk : Tr), k ≤ n ∧ i = .int .i64 k ∧ Hid (PS w wr t s sk ∧ sk.es = putsL s.es (TL.take k) ∧ sk.vers = s.vers + 1 ∧ sk.next = nextL s.next (TL.take k) ∧ Row7 wr w.heap.size (.slice a2 n c2) TL ∧ (∀ q, (Value.slice a2 n c2).ownBlock = some q → sk.v.ownBlock ≠ some q) ∧ RowK wr w.heap.size u ((TL.take k).map keyOf))) (fun _ i _ => n - (intOf i).toNat)
      case atStart => exact ⟨0, { s with vers := s.vers + 1 }, Nat.zero_le _, rfl, H3.out.1, rfl, rfl, rfl, H3.out.2, HR.out.2.2.2, World.ownsRow_nil _ _ _ _⟩
      case round =>
        obtain ⟨k, sk, hk, rfl, hI⟩ := hrel
        by_cases hkn : k < n
        · obtain ⟨x, hx⟩ : ∃ x, TL[k]? = some x := ⟨_, List.getElem?_eq_getElem (by rw [HR.out.2.1]; exact hkn)⟩
          have hrow := hI.out.2.2.2.2.1
          obtain ⟨g, rfl, -, hgw, hgl, hc, -⟩ := owns_entry hrow hx
          have x0 := hc.c0
          have x1 := hc.c1
          have x2 := hc.c2
          have x3 := hc.c3
          have x4 := hc.c4
          have x5 := hc.c5
          have x6 := hc.c6
          have hki : (k : Int) < (n : Int) := by omega
          obtain ⟨W5, hW5⟩ : ∃ W5, wr.alloc (.cells x.vals.toArray 42) = W5 := ⟨_, rfl⟩
          have hb5 : Below wr.heap.size wr W5 := by rw [← hW5]; exact below_alloc _ _
          have hbx5 : W5.heap[wr.heap.size]? = some (.cells x.vals.toArray 42 (0, 0)) := by rw [← hW5]; exact heap_new _ _
          have hc5 := cells7_of hbx5
          have y0 := hc5.c0
          have y1 := hc5.c1
          have y2 := hc5.c2
          have y3 := hc5.c3
          have y4 := hc5.c4
          have y5 := hc5.c5
          have y6 := hc5.c6
          simp only [Nat.zero_add] at y1 y2 y3 y4 y5 y6
          have hsl : sk.es.length ≤ 99 := by
            rw [hI.out.2.1]
            have h1 := putsL_len s.es (TL.take k)
            have h2 := HWF.out.2
            have h3 : (TL.take k).length ≤ k := List.length_take_le _ _
            omega
          have hput := put_p t sk x W5 (hI.out.1.is.below hb5) (by rw [hI.out.2.1]; exact putsL_rises HWF.out.1 _) hsl (fun hn => by have := HIds.out x (List.mem_of_getElem? hx) hn; omega)
          unfold En.agg at hput
          have HPut : Hid (Calls Try.prog 37 #[.pointer (some ⟨t, 0, none⟩), .agg #[.int .i64 x.d, .string x.nm, .bool x.neg, .int .i64 x.id, .int .i64 x.kind, .int .i64 x.mode, .string x.tg]] W5 fun e w' => e = .returned (.tuple #[]) ∧ ∃ v', PS W5 w' t sk { sk with v := v', es := putL sk.es x, next := nextP sk.next x }) := hput
          have H5 : Hid (TL[k]? = some x ∧ W5.heap[wr.heap.size]? = some (.cells x.vals.toArray 42 (0, 0)) ∧ Below wr.heap.size wr W5) := ⟨hx, hbx5, hb5⟩
          unfold En.vals at hW5
          clear hrow hc hc5 hx hbx5 hb5 hput
          go_upto_region 14 with (go_at_call 37; refine HPut.out.mono ?_; rintro z w6 ⟨rfl, v6, hps6⟩)
          have hS := step_end hI.out.1 H5.out.2.2 hps6 H5.out.2.1 hI.out.2.2.2.2.1 hI.out.2.2.2.2.2.1 hI.out.2.2.2.2.2.2
          obtain ⟨hq0, hq1, hrow6, hvq6, hkeys6, hps⟩ := hS
          have HS : Hid (PS w w6 t s { sk with v := v6, es := putL sk.es x, next := nextP sk.next x } ∧ Row7 w6 w.heap.size (.slice (some ⟨g, 0, none⟩) n c2) TL ∧ (∀ q, (Value.slice (some ⟨g, 0, none⟩) n c2).ownBlock = some q → v6.ownBlock ≠ some q) ∧ RowK w6 w.heap.size u5 ((TL.take k).map keyOf)) := ⟨hps, hrow6, hvq6, hkeys6⟩
          have hKl : ((TL.take k).map keyOf).length = k := by rw [List.length_map, List.length_take, HR.out.2.1]; omega
          have ho6 : w6.ownsRow w.heap.size 28 2 u5 k (kc ((TL.take k).map keyOf)) := by have := hkeys6; unfold RowK at this; rw [hKl] at this; exact this
          have hw6 : w.heap.size ≤ w6.heap.size := hps.only.size
          clear hW5 hps6 hrow6 hvq6 hkeys6 hps hKl x0 x1 x2 x3 x4 x5 x6 y0 y1 y2 y3 y4 y5 y6
          go_wp2_with (at_builtin; refine wpList_append_own_at _ rfl (.tmp 51) (.tmp 54) 32 rfl w.heap.size 28 i1 _ 2 24 Try.underlying32 hi1 hw0 hw1 hw2 rfl (by decide) _ k (kc ((TL.take k).map keyOf)) rfl (World.ownsRow.alloc ho6 _) ⟨w6.heap.size, 0, none⟩ 1 1 [.int .i64 x.d, .string x.nm] rfl rfl (two_at _ _ _ _) (two_onek x) (by unfold maxLen; omega) (by omega) (by simp; omega) ?_; intro v7 w7 hown7 hgrow7 _ _)
          refine ⟨⟨k + 1, { sk with v := v6, es := putL sk.es x, next := nextP sk.next x }, by omega, by simp, ?_⟩, by simp [intOf]; omega⟩
          exact step_fin HS.out.1 HS.out.2.1 HS.out.2.2.1 HS.out.2.2.2 hown7 hgrow7 hI.out.2.1 hI.out.2.2.1 hI.out.2.2.2.1 H5.out.1 HR.out.2.1 hkn
        · have hkn' : ¬ (k : Int) < (n : Int) := by omega
          have hke : TL.take k = TL := List.take_of_length_le (by rw [HR.out.2.1]; omega)
          go_wp2
          go_ret3
          refine ⟨.slice a2 n c2, u5, sk, by rw [HE.out]; rfl, hI.out.1, ⟨?_, ?_, ?_⟩, ?_, ?_, hI.out.2.2.2.2.2.1⟩
          · rw [HE.out, if_pos rfl, hI.out.2.1, hke]; exact HP.out.1
          · rw [HE.out, if_pos rfl]; exact hI.out.2.2.1
          · rw [HE.out, if_pos rfl, hI.out.2.2.2.1, hke]; exact HP.out.2.1
          · unfold toldE; rw [HE.out, if_pos rfl, HTL.out]; exact hI.out.2.2.2.2.1
          · unfold toldK; rw [HE.out, if_pos rfl, ← HP.out.2.2]
            have := hI.out.2.2.2.2.2.2
            rw [hke] at this
            exact this
    · have hzb : (E != 0) = true := by simpa using hz
      have HZ : Hid (E ≠ 0) := hz
      clear hz
      go_wp2_with (go_at_fn f; refine (HMut.out _ (H.out.below HB1.out)).mono ?_; rintro x w2 ⟨v2, rfl, hr2, hb2⟩)
      go_ret3
      exact HFin.out _ _ HZ.out (chainB HB1.out hb2) rfl
end
section

end
section
open Go.RowKit

def Mn : Nms := ⟨chkE, fun s => cutE s (fullB s)⟩
theorem nmsP : NmsP Mn := ⟨fun s w => check_any s w, fun s w => (target_any s w).mono fun _ _ ⟨v, he, _, hb⟩ => ⟨v, _, _, he, hb⟩⟩
end
end Go.Proofs.Ytppbbddlbfgpfaa
