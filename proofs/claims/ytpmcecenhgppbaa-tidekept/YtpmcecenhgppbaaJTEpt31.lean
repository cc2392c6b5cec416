/- The document's tide: hold. -/
import Derived.Test.YtpmcecenhgppbaaJTEpt30
namespace Go.Proofs.Ytpmcecenhgppbaa
section
open Go.RowKit Go.Shelf
attribute [local go_sem ↓ high] loadMsg storeMsg buildMsg storeAct loadAct buildAct
attribute [local go_sem high] run_store_complex eqC

theorem ents_copy {w : World} {B2 : Nat} {v2 : Value} {l2 : List En} (h2 : Row7 w B2 v2 l2) (hl : l2.length * 72 ≤ LB) :
    ∃ a3 q3 W, (∀ ty, (Builtin.append_ #[33, 33] ty #[.slice none 0 0, v2]).run Try.prog w = .ok (.slice a3 l2.length q3) W) ∧ Row7 W w.heap.size (.slice a3 l2.length q3) l2 ∧ Below w.heap.size w W := by
  obtain ⟨i1, hi1, hw0, hw1, hw2⟩ := info_parts Try.infoE
  unfold LB at hl
  have hr2 := h2
  rcases h2.2 with ⟨rfl, e2⟩ | ⟨g, cap, cur, rfl, _⟩
  · obtain rfl := List.length_eq_zero_iff.1 e2
    exact ⟨none, 0, w, fun ty => run_append_owned_none (P := Try.prog) (w := w) w.heap.size 33 ty 57 i1 7 Try.underlying33 hi1 (.slice none 0 0) 0 [] (World.ownsRow_nil _ _ _ _), World.ownsRow_nil _ _ _ _, Below.refl _ _⟩
  · obtain ⟨hc, _⟩ := owns_cells hr2
    have key : ∀ ty, ∃ v' w', (Builtin.append_ #[33, 33] ty #[.slice none 0 0, .slice (some ⟨g, 0, none⟩) l2.length cap]).run Try.prog w = .ok v' w' ∧ w'.ownsRow w.heap.size 57 7 v' (0 + l2.length) ([] ++ ec l2) ∧ w.grownBy w' none := fun ty => by
      obtain ⟨v', w', a1, a2, a3, _, _⟩ := run_append_own_at (P := Try.prog) w w.heap.size 33 ty 57 i1 _ 7 72 Try.underlying33 hi1 hw0 hw1 hw2 rfl (by decide) (.slice none 0 0) 0 [] (World.ownsRow_nil _ _ _ _) ⟨g, 0, none⟩ l2.length cap (ec l2) (ec_len l2) (fun j u hu => by rw [add_plain', Nat.zero_add]; exact hc j u hu) (ec_one l2) (by unfold maxLen; omega) (by omega) (Nat.le_refl _)
      exact ⟨v', w', a1, a2, a3⟩
    obtain ⟨v', W, a1, a2, a3⟩ := key 0
    rw [Nat.zero_add, List.nil_append] at a2
    obtain ⟨a', q', rfl⟩ := owns_len a2
    refine ⟨a', q', W, fun ty => ?_, a2, below_grown a3⟩
    have : (Builtin.append_ #[33, 33] ty #[.slice none 0 0, .slice (some ⟨g, 0, none⟩) l2.length cap]).run Try.prog w = (Builtin.append_ #[33, 33] 0 #[.slice none 0 0, .slice (some ⟨g, 0, none⟩) l2.length cap]).run Try.prog w := rfl
    rw [this]; exact a1
/-- the document's likeness, and the chapter's -/
theorem like_doc {o m : Pm} {e : Int} (ho : Good e o) (hm : Good e m) : likeM o m = (((o.kind == 2) == (m.kind == 2)) && (Op.floatEq .f64 o.re m.re && Op.floatEq .f64 o.im m.im)) := by
  have h1 : o.ep = e := ho.mkk.pa
  have h2 : m.ep = e := hm.mkk.pa
  unfold likeM
  rw [h1, h2, floatEq_whole ho.mkk.ha hm.mkk.ha, floatEq_whole ho.mkk.hb hm.mkk.hb]
  rcases ho.kind with k1 | k1 <;> rcases hm.kind with k2 | k2 <;> rw [k1, k2] <;> simp
def HoR (w : World) (B t : Nat) (s : Dt) (m : Pm) (e : Ending) (w' : World) : Prop := e = .returned (.tuple #[]) ∧ ∃ s', SD w w' B t s s' ∧ s'.say = s.say.holds m ∧ s'.fs = s.fs ∧ s'.fv = s.fv
theorem holds_same {s : Ts} {m : Pm} (h : ¬ (s.held.length < s.hold ∧ (s.held.any fun o => likeM o m) = false)) : s.holds m = s := by unfold Ts.holds; rw [if_neg h]
/-- a copy held -/
theorem hold_end2 {w W6 W7 W8 W9 : World} {B t : Nat} {s : Dt} {x y : Hm} {a9 : Option Addr} {q9 : Nat} (h : IsD w B t s) (b6 : Below w.heap.size w W6) (hy : Lists W6 w.heap.size y) (hym : y.m = x.m) (hG : Good s.e x.m) (hW7 : W6.alloc (.cells y.arr 45) = W7) (hr9 : RowM W8 B (.slice a9 (s.hs.length + 1) q9) (s.hs ++ [y])) (ho8 : Only (fun k => s.hv.ownBlock = some k) W7 W8) (hat : (Value.slice a9 (s.hs.length + 1) q9).ownBlock = s.hv.ownBlock ∨ (Value.slice a9 (s.hs.length + 1) q9).ownBlock = some W7.heap.size) (hl : s.hs.length < s.hold) (hW9 : W8.setCell ⟨t, 7, none⟩ (.slice a9 (s.hs.length + 1) q9) = W9) :
    SD w W9 B t s { s with hv := .slice a9 (s.hs.length + 1) q9, hs := s.hs ++ [y] } := by
  have b7 : Below w.heap.size w W7 := chainB b6 (boxB hW7).2
  have hB : B ≤ w.heap.size := Nat.le_trans h.bt (Nat.le_of_lt h.tt.lt)
  rw [← hW9]
  refine h.putH (only_from b7 ho8) _ _ hr9 (fun m hm => ?_) (by rw [List.length_append]; exact hl) ?_
  · rcases List.mem_append.1 hm with hm | hm
    · exact .inl hm
    · rw [List.mem_singleton.1 hm]
      have hy7 : Lists W7 w.heap.size y := hy.below (boxB hW7).2
      refine .inr ⟨(hy7.down hB).only ho8 fun q hq => ?_, by rw [hym]; exact hG, fun k hk => ?_⟩
      · have ht := (h.held.below b7).tag hq
        exact ⟨ht.two (by decide), ht.two (by decide)⟩
      · rcases hk with hk | hk
        · exact (World.ownsRow.lt hy7.es k hk).1
        · exact (World.ownsRow.lt hy7.ks k hk).1
  · rcases hat with e | e
    · exact .inl e
    · refine .inr fun k hk => ?_
      rw [e] at hk
      rw [← Option.some.inj hk]; exact b7.size
set_option maxHeartbeats 8000000 in
set_option maxRecDepth 100000 in
theorem hold_d (t B : Nat) (s : Dt) (x : Hm) (w : World) (h : IsD w B t s) (hL : Lists w 0 x) (hG : Good s.e x.m) : Calls Try.prog 36 #[.pointer (some ⟨t, 0, none⟩), .agg x.arr] w fun e w' => HoR w B t s x.m e w' := by
  obtain ⟨W1, hW1⟩ : ∃ W1, w.alloc (.cells x.arr 45) = W1 := ⟨_, rfl⟩
  have b1 := boxB hW1
  obtain ⟨g1, hg1⟩ : ∃ g, w.heap.size = g := ⟨_, rfl⟩
  obtain ⟨n, hn⟩ : ∃ n, s.hs.length = n := ⟨_, rfl⟩
  have hn8 : n ≤ 8 := by have := h.lh; have := h.l8; omega
  obtain ⟨a, cap, hv⟩ := owns_len h.held
  rw [hn] at hv
  have hx1 : W1.heap[g1]? = some (.cells x.arr 45 (0, 0)) := by rw [← hg1]; exact b1.1
  have HB : Hid (∀ V, Below W1.heap.size W1 V → V.cell? ⟨t, 7, none⟩ = some (.slice a n cap) ∧ V.cell? ⟨t, 2, none⟩ = some (.int .i64 s.hold) ∧ V.cell? ⟨g1, 0, none⟩ = some (.int .i64 x.m.kind) ∧ V.cell? ⟨g1, 4, none⟩ = some (.complex .f64 x.m.re x.m.im) ∧ V.heap[g1]? = some (.cells x.arr 45 (0, 0)) ∧ IsD V B t s ∧ Lists V 0 x ∧ Below w.heap.size w V) := fun V hV => by
    have bV : Below w.heap.size w V := chainB b1.2 hV
    have iV := h.below bV
    have hxV := hkeep hx1 hV
    have e7 := cell_of iV.head 7
    refine ⟨?_, cell_of iV.head 2, cell_of hxV 0, cell_of hxV 4, hxV, iV, hL.below bV, bV⟩
    rw [← hv]; exact e7
  have HX : Hid (IsD w B t s ∧ Good s.e x.m ∧ s.hs.length = n ∧ s.hv = .slice a n cap ∧ w.heap.size = g1) := ⟨h, hG, hn, hv, hg1⟩
  obtain ⟨X, hX⟩ : ∃ X, x.arr = X := ⟨_, rfl⟩
  have HXX : Hid (x.arr = X) := hX
  rw [hX] at hW1
  rw [hX]
  clear h hL hG b1 hn hv hx1 hX
  go_enter Try.func36, Try.ntmps36
  go_wp2
  clear hW1
  go_loopw [4] (fun s4 wr => ∃ i : Nat, i ≤ n ∧ s4 = .int .i64 i ∧ Hid ((∀ k o, k < i → s.hs[k]? = some o → likeM o.m x.m = false) ∧ Below W1.heap.size W1 wr)) (fun s4 _ => n - (intOf s4).toNat)
  case atStart => exact ⟨0, Nat.zero_le _, rfl, (fun k o hk => by omega), Below.refl _ _⟩
  case round =>
    obtain ⟨i, hi, rfl, HR⟩ := hrel
    obtain ⟨c7, c2, d0, d4, -, -, -, -⟩ := HB.out wr HR.out.2
    by_cases hlt : i < n
    · have hlz : (i : Int) < (n : Int) := by omega
      have hi0 : (0 : Int) ≤ (i : Int) := by omega
      obtain ⟨o, ho⟩ : ∃ o, s.hs[i]? = some o := ⟨_, List.getElem?_eq_getElem (by rw [HX.out.2.2.1]; exact hlt)⟩
      obtain ⟨-, -, -, -, -, iV, -, -⟩ := HB.out wr HR.out.2
      have hrow := iV.held
      rw [HX.out.2.2.2.1] at hrow
      obtain ⟨g, rfl, -, -, -, q⟩ := owns_msg hrow ho
      have e0 : wr.cell? ⟨g, i * 16, none⟩ = some (.int .i64 o.m.kind) := q 0 _ rfl
      have e4 : wr.cell? ⟨g, i * 16 + 4, none⟩ = some (.complex .f64 o.m.re o.m.im) := q 4 _ rfl
      have hlk := like_doc (iV.each o (List.mem_of_getElem? ho)).2 HX.out.2.1
      obtain ⟨ok, hok⟩ : ∃ k, o.m.kind = k := ⟨_, rfl⟩
      obtain ⟨mk, hmk⟩ : ∃ k, x.m.kind = k := ⟨_, rfl⟩
      obtain ⟨F1, hF1⟩ : ∃ F, Op.floatEq .f64 o.m.re x.m.re = F := ⟨_, rfl⟩
      obtain ⟨F2, hF2⟩ : ∃ F, Op.floatEq .f64 o.m.im x.m.im = F := ⟨_, rfl⟩
      have hk1 : ok = 2 ∨ ok = 3 := by rw [← hok]; exact (iV.each o (List.mem_of_getElem? ho)).2.kind
      have hk2 : mk = 2 ∨ mk = 3 := by rw [← hmk]; exact HX.out.2.1.kind
      rw [hok] at e0 hlk
      rw [hmk] at d0 hlk
      rw [hF1, hF2] at hlk
      have HLk : Hid _ := hlk
      have HO : Hid (s.hs[i]? = some o) := ho
      clear ho iV hrow q hlk hok hmk
      rcases hk1 with rfl | rfl <;> rcases hk2 with rfl | rfl <;> cases F1 <;> cases F2
      all_goals
        have hl2 := HLk.out
        simp at hl2
        have HL2 : Hid _ := hl2
        clear hl2 HLk
        go_upto_region 4 with fail
        go_quiet (fail)
        go_wp2
        first
          | exact ⟨⟨i + 1, by omega, by simp, (fun k o' hk ho' => by
              rcases Nat.lt_or_ge k i with hh | hh
              · exact HR.out.1 k o' hh ho'
              · have : k = i := by omega
                subst this
                rw [HO.out] at ho'
                rw [← Option.some.inj ho']; exact HL2.out), below_drewN HR.out.2 _⟩, by simp [intOf]; omega⟩
          | (go_end0
             refine ⟨rfl, s, SD.stay HX.out.1 (below_drewN (HB.out wr HR.out.2).2.2.2.2.2.2.2 _), ?_, rfl, rfl⟩
             rw [holds_same]
             rintro ⟨-, hh⟩
             rw [List.any_eq_false] at hh
             exact hh o.m (List.mem_map.2 ⟨o, List.mem_of_getElem? HO.out, rfl⟩) HL2.out)
    · have hlz : ¬ (i : Int) < (n : Int) := by omega
      have HNo : Hid ((s.say.held.any fun o => likeM o x.m) = false) := by
        show (s.say.held.any fun o => likeM o x.m) = false
        rw [List.any_eq_false]
        intro o ho
        obtain ⟨z, hz, rfl⟩ := List.mem_map.1 ho
        obtain ⟨k, hk, e⟩ := List.mem_iff_getElem.1 hz
        have hk' : k < i := by have := HX.out.2.2.1; omega
        rw [HR.out.1 k z hk' (by rw [← e]; exact List.getElem?_eq_getElem hk)]; simp
      obtain ⟨hd, hhd⟩ : ∃ hd, s.hold = hd := ⟨_, rfl⟩
      have HHd : Hid (s.hold = hd) := hhd
      rw [hhd] at c2
      clear hhd
      by_cases hroom : n < hd
      · have hrz : (n : Int) < (hd : Int) := by omega
        go_upto_region 5 with fail
        go_quiet (fail)
        go_upto_region 6 with fail
        obtain ⟨V0, hV0⟩ : ∃ V0, wr.drewN nq = V0 := ⟨_, rfl⟩
        have bV : Below W1.heap.size W1 V0 := by rw [← hV0]; exact below_drewN HR.out.2 _
        rw [hV0]
        obtain ⟨-, -, -, -, hx0, iV, hLV, bwV⟩ := HB.out V0 bV
        have ml0 := msgLd_of hx0 x.size
        obtain ⟨g5, hg5⟩ : ∃ g, V0.heap.size = g := ⟨_, rfl⟩
        obtain ⟨W3, hW3⟩ : ∃ W3, V0.alloc (.cells #[.int .i64 0, .int .i64 0, .int .i64 0, .int .i64 0, .complex .f64 0 0, .int .i64 0, .int .i64 0, .int .i64 0, .int .i64 0, .string ⟨#[]⟩, .int .i64 0, .string ⟨#[]⟩, .int .i64 0, .string ⟨#[]⟩, .slice none 0 0, .slice none 0 0] 45) = W3 := ⟨_, rfl⟩
        have b3 := boxB hW3
        rw [hg5] at b3
        obtain ⟨W4, hW4⟩ : ∃ W4, W3.setRow g5 x.arr = W4 := ⟨_, rfl⟩
        have ms4 := msgSt_of b3.1 rfl x.size x.one hW4
        have hx4 : W4.heap[g5]? = some (.cells x.arr 45 (0, 0)) := by rw [← hW4]; exact setRow_heap _ _ _ _ _ _ b3.1
        have o4 : Only (· = g5) W3 W4 := by rw [← hW4]; exact onlyR _ _ _
        have b04 : Below V0.heap.size V0 W4 := o4.below (hg5 ▸ b3.2) (hg5 ▸ b3.2).size (fun k hk => by rw [hk, hg5]; exact Nat.le_refl _)
        obtain ⟨nk, hnk⟩ : ∃ nk, x.m.ks.length = nk := ⟨_, rfl⟩
        obtain ⟨ne, hne⟩ : ∃ ne, x.m.es.length = ne := ⟨_, rfl⟩
        obtain ⟨a6, q6, W5, happ5, hr5, hb5⟩ := keys_copy (hLV.below b04).ks hLV.lk
        have hx5 := hkeep hx4 hb5
        obtain ⟨W6, hW6⟩ : ∃ W6, W5.setCell ⟨g5, 15, none⟩ (.slice a6 nk q6) = W6 := ⟨_, rfl⟩
        have hx6 : W6.heap[g5]? = some (.cells (x.arr.setIfInBounds 15 (.slice a6 nk q6)) 45 (0, 0)) := by rw [← hW6]; exact heap_set hx5 15 _
        have o6 : Only (· = g5) W5 W6 := by rw [← hW6]; exact only1 _ _ _ _
        have b05 : Below V0.heap.size V0 W5 := chainB b04 hb5
        have b06 : Below V0.heap.size V0 W6 := o6.below b05 b05.size (fun k hk => by rw [hk, hg5]; exact Nat.le_refl _)
        obtain ⟨a7, q7, W7, happ7, hr7, hb7⟩ := ents_copy (hLV.below b06).es hLV.le
        have hx7 := hkeep hx6 hb7
        obtain ⟨W8, hW8⟩ : ∃ W8, W7.setCell ⟨g5, 14, none⟩ (.slice a7 ne q7) = W8 := ⟨_, rfl⟩
        obtain ⟨y, hy⟩ : ∃ y : Hm, y = ⟨x.m, a7, q7, a6, q6⟩ := ⟨_, rfl⟩
        have hx8 : W8.heap[g5]? = some (.cells y.arr 45 (0, 0)) := by
          rw [← hW8, hy]
          have := heap_set hx7 14 (.slice a7 ne q7)
          rw [← hnk] at this
          rw [← hne] at this ⊢
          exact this
        have o8 : Only (· = g5) W7 W8 := by rw [← hW8]; exact only1 _ _ _ _
        have b07 : Below V0.heap.size V0 W7 := chainB b06 hb7
        have b08 : Below V0.heap.size V0 W8 := o8.below b07 b07.size (fun k hk => by rw [hk, hg5]; exact Nat.le_refl _)
        have tg5 : Tag W5 g5 45 := ⟨_, _, hx5⟩
        have tg7 : Tag W7 g5 45 := ⟨_, _, hx7⟩
        have hLy : Lists W8 w.heap.size y := by
          have k6 : RowK W6 W4.heap.size (.slice a6 x.m.ks.length q6) x.m.ks := owns_moved hr5 fun k hk => o6.block k (World.ownsRow.lt hr5 k hk).2 fun e => (Tag.own hr5 hk).ne tg5 (by decide) e
          have k7 := k6.below hb7
          have k8 : RowK W8 W4.heap.size (.slice a6 x.m.ks.length q6) x.m.ks := owns_moved k7 fun k hk => o8.block k (World.ownsRow.lt k7 k hk).2 fun e => (Tag.own k7 hk).ne tg7 (by decide) e
          have e8 : Row7 W8 W6.heap.size (.slice a7 x.m.es.length q7) x.m.es := owns_moved hr7 fun k hk => o8.block k (World.ownsRow.lt hr7 k hk).2 fun e => (Tag.own hr7 hk).ne tg7 (by decide) e
          rw [hy]
          exact ⟨owns_le e8 (Nat.le_trans bwV.size b06.size), owns_le k8 (Nat.le_trans bwV.size b04.size), hLV.le, hLV.lk⟩
        have hdr : Below W8.heap.size W8 W8.drew := (Below.refl _ _).drew
        obtain ⟨W9, hW9⟩ : ∃ W9, W8.drew.alloc (.cells y.arr 45) = W9 := ⟨_, rfl⟩
        have b9 := boxB hW9
        have b8w : Below w.heap.size w W8.drew := chainB (chainB bwV b08) hdr
        have b9w : Below w.heap.size w W9 := chainB b8w b9.2
        have mo : (msgOne #[(0, .agg y.arr)]).run Try.prog W8.drew = .ok (.slice (some ⟨W8.drew.heap.size, 0, none⟩) 1 1) (W8.drew.alloc (.cells y.arr 45)) := msgOne_of y.arr rfl W8.drew
        obtain ⟨a9, q9, W10, happ9, hr10, ho10, hat10⟩ := msgs_append (l2 := [y]) (HX.out.1.held.below b9w) ⟨W8.drew.heap.size, 0, none⟩ 1 (fun j u hu => by
          have e : mc [y] = y.vals := by simp [mc]
          rw [e] at hu
          rw [add_plain', Nat.zero_add, cell_of b9.1, ← Array.getElem?_toList]; exact hu) (Nat.le_trans HX.out.1.bt (Nat.le_trans (Nat.le_of_lt HX.out.1.tt.lt) b9w.size)) (by rw [HX.out.2.2.1]; simp; omega)
        obtain ⟨W11, hW11⟩ : ∃ W11, W10.setCell ⟨t, 7, none⟩ (.slice a9 (s.hs.length + 1) q9) = W11 := ⟨_, rfl⟩
        have hl1 : s.hs.length + [y].length = s.hs.length + 1 := rfl
        have S11 : SD w W11 B t s { s with hv := .slice a9 (s.hs.length + 1) q9, hs := s.hs ++ [y] } := hold_end2 HX.out.1 b8w (hLy.below hdr) (by rw [hy]) HX.out.2.1 hW9 hr10 ho10 hat10 (by rw [HX.out.2.2.1, HHd.out]; exact hroom) hW11
        have HFin : Hid (SD w W11 B t s { s with hv := .slice a9 (s.hs.length + 1) q9, hs := s.hs ++ [y] } ∧ y.m = x.m) := ⟨S11, by rw [hy]⟩

        have hd10 : W10.heap[t]? = some (.cells s.arr 71 (0, 0)) := (ho10.block t (Nat.lt_of_lt_of_le HX.out.1.tt.lt b9w.size) fun e => ((HX.out.1.held.below b9w).tag e).ne (HX.out.1.below b9w).tt (by decide) rfl).trans (HX.out.1.below b9w).head
        have c10 : W10.cell? ⟨t, 7, none⟩ = some s.hv := cell_of hd10 7
        have f10 := free_of hd10
        have c7d : ∀ V, Below w.heap.size w V → V.cell? ⟨t, 7, none⟩ = some (.slice a n cap) := fun V hV => by
          rw [cell_of (HX.out.1.below hV).head 7, ← HX.out.2.2.2.1]; rfl
        have c78 := c7d W8.drew b8w
        have c79 := c7d W9 b9w
        have ml8 : (msgLd (.pointer (some ⟨g5, 0, none⟩))).run Try.prog W8.drew = .ok (.agg y.arr) W8.drew := msgLd_of (hkeep hx8 hdr) y.size
        have ml9 : (msgLd (.pointer (some ⟨g5, 0, none⟩))).run Try.prog W9 = .ok (.agg y.arr) W9 := msgLd_of (hkeep (hkeep hx8 hdr) b9.2) y.size
        have k15 : W4.cell? ⟨g1, 15, none⟩ = some (.slice x.ak nk x.ck) := by rw [cell_of (hkeep hx0 b04) 15, ← hnk]; rfl
        have k14 : W6.cell? ⟨g1, 14, none⟩ = some (.slice x.ae ne x.ce) := by rw [cell_of (hkeep hx0 b06) 14, ← hne]; rfl
        have j15 := cell_of hx5 15
        have jf5 := free_of hx5
        have j14 := cell_of hx7 14
        have jf7 := free_of hx7
        have happ5' : ∀ ty, (Builtin.append_ #[34, 34] ty #[.slice none 0 0, .slice x.ak nk x.ck]).run Try.prog W4 = .ok (.slice a6 nk q6) W5 := fun ty => by have := happ5 ty; unfold Hm.vk at this; rw [hnk] at this; exact this
        have happ7' : ∀ ty, (Builtin.append_ #[33, 33] ty #[.slice none 0 0, .slice x.ae ne x.ce]).run Try.prog W6 = .ok (.slice a7 ne q7) W7 := fun ty => by have := happ7 ty; unfold Hm.ve at this; rw [hne] at this; exact this
        have happ9' : ∀ ty, (Builtin.append_ #[60, 60] ty #[.slice a n cap, .slice (some ⟨W8.drew.heap.size, 0, none⟩) 1 1]).run Try.prog W9 = .ok (.slice a9 (n + 1) q9) W10 := fun ty => by
          have := happ9 ty
          rw [HX.out.2.2.2.1, hl1, HX.out.2.2.1] at this; exact this
        rw [HX.out.2.2.1] at hW11
        obtain ⟨Y, hY⟩ : ∃ Y, y.arr = Y := ⟨_, rfl⟩
        rw [hY] at mo ml8 ml9 hW9
        rw [HXX.out] at ml0 ms4
        clear hx0 iV hLV bwV b3 hW4 hx4 o4 b04 hnk hne happ5 hr5 hb5 hx5 hx6 o6 b05 b06 happ7 hr7 hb7 hx7 hy hx8 o8 b07 b08 tg5 tg7 hLy hdr b9 b8w b9w happ9 hr10 ho10 hat10 S11 hd10 c7d bV hV0 hl1 hY c7 c2 d0 d4
        go_upto_region 9 with (first
          | (at_builtin; refine wpList_append_run rfl (.const (.slice none 0 0)) (.tmp 53) 34 rfl _ _ (.slice a6 nk q6) W5 rfl rfl happ5' ?_)
          | (at_builtin; refine wpList_append_run rfl (.const (.slice none 0 0)) (.tmp 57) 33 rfl _ _ (.slice a7 ne q7) W7 rfl rfl happ7' ?_))
        clear ml0 ms4 k15 k14 j15 jf5 j14 jf7 happ5' happ7'
        go_region_law (refine step_append_run rfl (.tmp 64) (.tmp 66) 60 rfl (.slice a n cap) (.slice (some ⟨W8.drew.heap.size, 0, none⟩) 1 1) (.slice a9 (n + 1) q9) W10 (by simp [Act.eval]) (by simp [Act.eval]) happ9' ?_)
        all_goals
          go_wp2
          go_end0
          refine ⟨rfl, _, HFin.out.1, ?_, rfl, rfl⟩
          unfold Ts.holds
          rw [if_pos ⟨by show (s.hs.map Hm.m).length < s.hold; rw [List.length_map, HX.out.2.2.1, HHd.out]; exact hroom, HNo.out⟩]
          unfold Dt.say
          simp only [List.map_append, List.map_cons, List.map_nil, HFin.out.2]
      · have hrz : ¬ (n : Int) < (hd : Int) := by omega
        go_upto_region 5 with fail
        go_quiet (fail)
        go_wp2
        go_end0
        refine ⟨rfl, s, SD.stay HX.out.1 (below_drewN (HB.out wr HR.out.2).2.2.2.2.2.2.2 _), ?_, rfl, rfl⟩
        rw [holds_same]
        rintro ⟨hh, -⟩
        have h1 : s.say.held.length = n := by show (s.hs.map Hm.m).length = n; rw [List.length_map]; exact HX.out.2.2.1
        have h2 : s.say.hold = hd := HHd.out
        omega
end
end Go.Proofs.Ytpmcecenhgppbaa
