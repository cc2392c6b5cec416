/- The program's tree: List, Dump. -/
import Derived.Test.YtppbbddlbfgpfaaJWOme14
namespace Go.Proofs.Ytppbbddlbfgpfaa
section
open Go.RowKit
attribute [local go_sem high] eqK' neqK' eqE neqE eqN neqN guardK guardE guardN

/-- slices.Clone of a list of entries -/
theorem clone_p (v : Value) (es : List En) (base : Nat) (w : World) (h : Row7 w base v es) (hl : es.length ≤ 1000000) :
    Calls Try.prog 38 #[v] w fun e w' => ∃ v', e = .returned v' ∧ Row7 w' w.heap.size v' es ∧ Below w.heap.size w w' := by
  obtain ⟨i1, hi1, hw0, hw1, hw2⟩ := info_parts Try.infoE
  rcases h.2 with ⟨rfl, hn⟩ | ⟨g, cap, cur, rfl, hg, hh, r⟩
  · have hcon := AnyE.slices_Clone_nil Try.cloneE 0 0 w
    change Calls Try.prog 38 _ _ _ at hcon
    refine hcon.mono ?_
    rintro e w' ⟨rfl, rfl⟩
    obtain rfl : es = [] := List.length_eq_zero_iff.1 hn
    exact ⟨_, rfl, World.ownsRow_nil _ _ _ _, Below.refl _ _⟩
  · have hc := (owns_cells h).1
    have hcon := AnyE.slices_Clone Try.cloneE i1 _ 7 72 hi1 hw0 hw1 hw2 rfl (by decide) Try.sizeOf42 g 0 es.length cap (ec es) w (ec_len es) (by unfold maxLen; omega) (by omega) (fun j u hu => by rw [Nat.zero_add]; exact hc j u hu) (ec_one es)
    change Calls Try.prog 38 _ _ _ at hcon
    refine hcon.mono ?_
    rintro e w' ⟨v', rfl, hown, _, hb⟩
    exact ⟨v', rfl, hown, hb⟩
theorem dump_p (t : Nat) (s : Tr) (w : World) (h : IsP w t s) :
    Calls Try.prog 24 #[.pointer (some ⟨t, 0, none⟩)] w fun e w' => ∃ v', e = .returned v' ∧ Row7 w' w.heap.size v' s.es ∧ Below w.heap.size w w' := by
  obtain ⟨c0, _⟩ := h.cells
  have HC : Hid (Calls Try.prog 38 #[s.v] w fun e w' => ∃ v', e = .returned v' ∧ Row7 w' w.heap.size v' s.es ∧ Below w.heap.size w w') := clone_p s.v s.es 0 w h.row (by have := h.lim; omega)
  obtain ⟨a, cap, e⟩ := owns_len h.row
  rw [e] at c0 HC
  clear h e
  go_enter Try.func24, Try.ntmps24
  go_wp2_with (go_at_call 38; refine HC.out.mono ?_; rintro y w1 ⟨v1, rfl, hr1, hb1⟩)
  go_ret
  exact ⟨v1, rfl, hr1, hb1⟩

/-- a directory's entries -/
def listL (es : List En) (d : Int) : List En := es.filter fun e => decide (e.d = d)
theorem listL_take (es : List En) (d : Int) (k : Nat) (e : En) (h : es[k]? = some e) : listL (es.take (k + 1)) d = listL (es.take k) d ++ if e.d = d then [e] else [] := by
  unfold listL
  rw [List.take_add_one, h, List.filter_append]
  congr 1
  by_cases hq : e.d = d <;> simp [hq]
theorem listL_le (es : List En) (d : Int) : (listL es d).length ≤ es.length := List.length_filter_le _ _
theorem listL_names (es : List En) (d : Int) : (listL es d).length = namesN es d := rfl
theorem listL_mem {es : List En} {d : Int} {x : En} : x ∈ listL es d ↔ x ∈ es ∧ x.d = d := by
  unfold listL
  rw [List.mem_filter, decide_eq_true_iff]
def listR (es : List En) (d : Int) : List En := if dirE es d = 0 then listL es d else []

set_option maxRecDepth 20000 in
set_option maxHeartbeats 4000000 in
theorem list_p (t : Nat) (s : Tr) (d : Int) (w : World) (h : IsP w t s) :
    Calls Try.prog 18 #[.pointer (some ⟨t, 0, none⟩), .int .i64 d] w fun e w' => ∃ v', e = .returned (.tuple #[v', .int .i64 (dirE s.es d)]) ∧ Row7 w' w.heap.size v' (listR s.es d) ∧ Below w.heap.size w w' := by
  obtain ⟨i1, hi1, hw0, hw1, hw2⟩ := info_parts Try.infoE
  obtain ⟨D, hD⟩ : ∃ x, dirE s.es d = x := ⟨_, rfl⟩
  have HD : Hid (∀ w, IsP w t s → Calls Try.prog 35 #[.pointer (some ⟨t, 0, none⟩), .int .i64 d] w fun e w' => e = .returned (.int .i64 D) ∧ Below w.heap.size w w') := by
    intro w hw; rw [← hD]; exact directory_p t s d w hw
  have H : Hid (IsP w t s) := h
  have HL : Hid (listR s.es d = if D = 0 then listL s.es d else []) := by show _ = _; unfold listR; rw [hD]
  rw [hD]
  obtain ⟨c0, _, _, _⟩ := h.cells
  obtain ⟨a, cap, e⟩ := owns_len h.row
  rw [e] at c0
  obtain ⟨n, hn⟩ : ∃ n, s.es.length = n := ⟨_, rfl⟩
  rw [hn] at c0 e
  have hlim := h.lim
  rw [hn] at hlim
  have hlt := h.tt.lt
  have HV : Hid (s.v = .slice a n cap ∧ s.es.length = n) := ⟨e, hn⟩
  clear hD h e hn
  by_cases hD0 : D = 0
  · subst hD0
    have HL2 : Hid (listR s.es d = listL s.es d) := by show _ = _; rw [HL.out]; simp
    go_enter Try.func18, Try.ntmps18
    go_wp2_with (go_at_call 35; refine (HD.out _ H.out).mono ?_; rintro x w1 ⟨rfl, hb1⟩; have d0 := (hb1.cell (p := ⟨t, 0, none⟩) hlt).trans c0)
    have HB1 : Hid (Below w.heap.size w w1) := hb1
    go_loopw [7, 21] (fun u i wr => ∃ k : Nat, k ≤ n ∧ i = .int .i64 k ∧ wr.ownsRow w.heap.size 42 7 u (listL (s.es.take k) d).length (ec (listL (s.es.take k) d)) ∧ Below w.heap.size w wr) (fun _ i _ => n - (intOf i).toNat)
    case atStart => exact ⟨0, Nat.zero_le _, rfl, World.ownsRow_nil _ _ _ _, HB1.out⟩
    case round =>
      obtain ⟨k, hk, rfl, hown, hb⟩ := hrel
      by_cases hkn : k < n
      · obtain ⟨e, he⟩ : ∃ e, s.es[k]? = some e := ⟨_, List.getElem?_eq_getElem (by rw [HV.out.2]; exact hkn)⟩
        have hrow := (H.out.below hb).row
        rw [HV.out.1] at hrow
        obtain ⟨g, rfl, -, -, hg, hc, -⟩ := owns_entry hrow he
        have x0 := hc.c0
        have x1 := hc.c1
        have x2 := hc.c2
        have x3 := hc.c3
        have x4 := hc.c4
        have x5 := hc.c5
        have x6 := hc.c6
        have hki : (k : Int) < (n : Int) := by omega
        have HT := listL_take s.es d k e he
        have hgl := listL_le (s.es.take k) d
        rw [List.length_take] at hgl
        obtain ⟨G, hG⟩ : ∃ G, listL (s.es.take k) d = G := ⟨_, rfl⟩
        rw [hG] at hown HT hgl
        have hGl : G.length ≤ 100 := by omega
        by_cases hq : e.d = d
        · rw [if_pos hq] at HT
          have HE : Hid (listL (s.es.take (k + 1)) d = G ++ [e]) := HT
          have hqb : (e.d == d) = true := by simpa using hq
          obtain ⟨W5, hW5⟩ : ∃ W5, wr.alloc (.cells e.vals.toArray 42) = W5 := ⟨_, rfl⟩
          have hb5 : Below w.heap.size w W5 := by rw [← hW5]; exact chainB hb (below_alloc _ _)
          have ho5 : W5.ownsRow w.heap.size 42 7 u7 G.length (ec G) := by rw [← hW5]; exact owns_below hown (below_alloc _ _)
          have hc5 := cells7_of (show W5.heap[wr.heap.size]? = some (.cells e.vals.toArray 42 (0, 0)) from by rw [← hW5]; exact heap_new _ _)
          unfold En.vals at hW5
          have y0 := hc5.c0
          have y1 := hc5.c1
          have y2 := hc5.c2
          have y3 := hc5.c3
          have y4 := hc5.c4
          have y5 := hc5.c5
          have y6 := hc5.c6
          simp only [Nat.zero_add] at y1 y2 y3 y4 y5 y6
          clear hrow hc he HT hG hq hgl hown hc5
          go_upto_region 9 with fail
          clear hW5 x0 x1 x2 x3 x4 x5 x6 hqb
          go_wp2_with (at_builtin; refine wpList_append_own_at _ rfl (.tmp 30) (.tmp 32) 48 rfl w.heap.size 42 i1 _ 7 72 Try.underlying48 hi1 hw0 hw1 hw2 rfl (by decide) _ G.length (ec G) rfl (World.ownsRow.alloc ho5 _) ⟨W5.heap.size, 0, none⟩ 1 1 e.vals rfl rfl (vals_at _ e _) (vals_one e) (by unfold maxLen; omega) (by omega) (by have := hb5.size; simp; omega) ?_; intro v5 w5 hown5 hgrow5 _ _; have H5 : Hid (w5.ownsRow w.heap.size 42 7 v5 (G.length + 1) (ec G ++ e.vals) ∧ Below w.heap.size w w5) := ⟨hown5, Below.grown (hb5.alloc hb5.size _) hgrow5 (by have := hb5.size; simp; omega) (fun q hq => (World.ownsRow.lt ho5 q hq).1)⟩; clear hown5 hgrow5)
          refine ⟨⟨k + 1, by omega, by simp, ?_, H5.out.2⟩, by simp [intOf]; omega⟩
          rw [HE.out, List.length_append, ec_app]
          have : ec [e] = e.vals := by unfold ec; simp
          rw [this]; exact H5.out.1
        · rw [if_neg hq, List.append_nil] at HT
          have HE : Hid (listL (s.es.take (k + 1)) d = G) := HT
          have HO : Hid (wr.ownsRow w.heap.size 42 7 u7 G.length (ec G)) := hown
          have hqb : (e.d == d) = false := by simpa using hq
          clear hrow hc he HT hG hown hq
          go_wp2
          exact ⟨⟨k + 1, by omega, by simp, by rw [HE.out]; exact owns_below HO.out (below_alloc _ _), chainB hb (below_alloc _ _)⟩, by simp [intOf]; omega⟩
      · have hkn' : ¬ (k : Int) < (n : Int) := by omega
        have hke : s.es.take k = s.es := List.take_of_length_le (by rw [HV.out.2]; omega)
        rw [hke] at hown
        have HO : Hid (wr.ownsRow w.heap.size 42 7 u7 (listL s.es d).length (ec (listL s.es d))) := hown
        clear hown hke
        go_wp2
        go_ret2
        exact ⟨u7, rfl, by rw [HL2.out]; exact HO.out, hb⟩
  · have hDb : (D != 0) = true := by simpa using hD0
    have HL2 : Hid (listR s.es d = []) := by show _ = _; rw [HL.out]; simp [hD0]
    clear hD0
    go_enter Try.func18, Try.ntmps18
    go_wp2_with (go_at_call 35; refine (HD.out _ H.out).mono ?_; rintro x w1 ⟨rfl, hb1⟩)
    go_ret2
    exact ⟨.slice none 0 0, rfl, by rw [HL2.out]; exact World.ownsRow_nil _ _ _ _, hb1⟩
end
section
open Go.RowKit
attribute [local go_sem high] eqK' neqK' eqE neqE eqN neqN guardK guardE guardN

theorem permitted_p (m : Int) (w : World) : Calls Try.prog 82 #[.int .i64 m] w fun e w' => e = .returned (.bool (!badM m)) ∧ w' = w := by
  by_cases h1 : m < 0
  · have hb : badM m = true := by unfold badM; simp [h1]
    have h1' : ¬ (0 ≤ m) := by omega
    rw [hb]
    go_enter Try.func82, Try.ntmps82
    go_wp2
    go_ret
    exact ⟨rfl, rfl⟩
  · have h1' : 0 ≤ m := by omega
    by_cases h2 : 511 < m
    · have hb : badM m = true := by unfold badM; simp [h2]
      have h2' : ¬ (m ≤ 511) := by omega
      rw [hb]
      go_enter Try.func82, Try.ntmps82
      go_wp2
      go_ret
      exact ⟨rfl, rfl⟩
    · have hb : badM m = false := by unfold badM; simp; omega
      have h2' : m ≤ 511 := by omega
      rw [hb]
      go_enter Try.func82, Try.ntmps82
      go_wp2
      go_ret
      exact ⟨rfl, rfl⟩

def rightE (M : Nms) (kind mode : Int) (tg : ByteArray) : Int := if badM mode then 1 else if kind = 3 then M.tgt tg else if (kind = 1 ∨ kind = 2) ∧ tg.toList = [] then 0 else 1
set_option maxHeartbeats 4000000 in
theorem right_p (M : Nms) (hM : NmsP M) (id kind mode : Int) (tg : ByteArray) (w : World) : Calls Try.prog 91 #[.agg #[.int .i64 id, .int .i64 kind, .int .i64 mode, .string tg]] w fun e w' => e = .returned (.int .i64 (rightE M kind mode tg)) ∧ Below w.heap.size w w' := by
  have HM : Hid (NmsP M) := hM
  clear hM
  cases hb : badM mode with
  | true =>
    have hE : rightE M kind mode tg = 1 := by unfold rightE; rw [hb]; rfl
    rw [hE]
    have HP : Hid (∀ w, Calls Try.prog 82 #[.int .i64 mode] w fun e w' => e = .returned (.bool false) ∧ w' = w) := fun w => by have := permitted_p mode w; rw [hb] at this; exact this
    clear hE hb
    go_enter Try.func91, Try.ntmps91
    go_wp2_with (go_at_call 82; refine (HP.out _).mono ?_; rintro x w1 ⟨rfl, rfl⟩)
    go_ret
    exact ⟨rfl, below_alloc _ _⟩
  | false =>
    have HP : Hid (∀ w, Calls Try.prog 82 #[.int .i64 mode] w fun e w' => e = .returned (.bool true) ∧ w' = w) := fun w => by have := permitted_p mode w; rw [hb] at this; exact this
    by_cases h3 : kind = 3
    · subst h3
      have hE : rightE M 3 mode tg = M.tgt tg := by unfold rightE; rw [hb]; rfl
      rw [hE]
      clear hE hb
      go_enter Try.func91, Try.ntmps91
      go_wp2_with (first
        | (go_at_call 82; refine (HP.out _).mono ?_; rintro x w1 ⟨rfl, rfl⟩)
        | (go_at_call 20; refine (HM.out.target tg _).mono ?_; rintro x w2 ⟨v2, a2, b2, rfl, hb2⟩))
      all_goals
        go_ret
        exact ⟨rfl, chainB (below_alloc _ _) hb2⟩
    · have h3b : (kind == 3) = false := by simpa using h3
      by_cases h12 : (kind = 1 ∨ kind = 2) ∧ tg.toList = []
      · have hE : rightE M kind mode tg = 0 := by unfold rightE; rw [hb]; simp [h3, h12]
        rw [hE]
        obtain ⟨h12, htg⟩ := h12
        clear hE hb h3
        rcases h12 with rfl | rfl
        · go_enter Try.func91, Try.ntmps91
          go_wp2_with (go_at_call 82; refine (HP.out _).mono ?_; rintro x w1 ⟨rfl, rfl⟩)
          go_ret
          exact ⟨rfl, below_alloc _ _⟩
        · go_enter Try.func91, Try.ntmps91
          go_wp2_with (go_at_call 82; refine (HP.out _).mono ?_; rintro x w1 ⟨rfl, rfl⟩)
          go_ret
          exact ⟨rfl, below_alloc _ _⟩
      · have hE : rightE M kind mode tg = 1 := by unfold rightE; rw [hb]; simp only [Bool.false_eq_true, if_false]; rw [if_neg h3, if_neg h12]
        rw [hE]
        clear hE hb h3
        by_cases k1 : kind = 1
        · subst k1
          have htg : (tg.toList == []) = false := by
            simp only [true_or, true_and] at h12
            simpa using h12
          clear h12
          go_enter Try.func91, Try.ntmps91
          go_wp2_with (go_at_call 82; refine (HP.out _).mono ?_; rintro x w1 ⟨rfl, rfl⟩)
          go_ret
          exact ⟨rfl, below_alloc _ _⟩
        · by_cases k2 : kind = 2
          · subst k2
            have htg : (tg.toList == []) = false := by
              simp only [or_true, true_and] at h12
              simpa using h12
            clear h12
            go_enter Try.func91, Try.ntmps91
            go_wp2_with (go_at_call 82; refine (HP.out _).mono ?_; rintro x w1 ⟨rfl, rfl⟩)
            go_ret
            exact ⟨rfl, below_alloc _ _⟩
          · have k1b : (kind == 1) = false := by simpa using k1
            have k2b : (kind == 2) = false := by simpa using k2
            clear h12 k1 k2
            go_enter Try.func91, Try.ntmps91
            go_wp2_with (go_at_call 82; refine (HP.out _).mono ?_; rintro x w1 ⟨rfl, rfl⟩)
            go_ret
            exact ⟨rfl, below_alloc _ _⟩
end
end Go.Proofs.Ytppbbddlbfgpfaa
