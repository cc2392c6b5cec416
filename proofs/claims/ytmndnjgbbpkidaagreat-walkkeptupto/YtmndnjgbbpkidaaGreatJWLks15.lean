/- Scripts of the laws among the arguments; keys that came in, copied. -/
import Derived.Test.YtmndnjgbbpkidaaGreatJWLks11
import Derived.Test.YtmndnjgbbpkidaaGreatJWLks14
import Derived.ProofKit
import Derived.OpenShut
import Derived.Deep.Slices
import Derived.SizedLaws
import Derived.Lib.SmallJoins
namespace Go.Proofs.YtmndnjgbbpkidaaGreat
section
open Go.ChangeShapes Go.WideShapes Go.ChangeAt Go.RowKit Go.Joins

def ArgK (w : World) (v : Value) (ks : List Ky) : Prop := ∃ a cap, v = .slice a ks.length cap ∧ ks.length * 24 ≤ 140737488351232 ∧ (ks = [] ∨ ∃ b off, a = some ⟨b, off, none⟩ ∧ b < w.heap.size ∧ ∀ j u, (kc ks)[j]? = some u → w.cell? ⟨b, off + j, none⟩ = some u)
theorem ArgK.below {w w' : World} {v : Value} {es : List Ky} (h : ArgK w v es) (hb : Below w.heap.size w w') : ArgK w' v es := by
  obtain ⟨a, cap, rfl, hl, h⟩ := h
  refine ⟨a, cap, rfl, hl, ?_⟩
  rcases h with h | ⟨b, off, rfl, hg, hc⟩
  · exact .inl h
  · exact .inr ⟨b, off, rfl, Nat.lt_of_lt_of_le hg hb.size, fun j u hu => (hb.cell (p := ⟨b, off + j, none⟩) hg).trans (hc j u hu)⟩
set_option maxRecDepth 20000 in
set_option maxHeartbeats 4000000 in
theorem copyK_any (v : Value) (es : List Ky) (w : World) (h : ArgK w v es) :
    Calls Tryz.prog 25 #[v] w fun e w' => ∃ v', e = .returned v' ∧ RowK w' w.heap.size v' es ∧ Below w.heap.size w w' := by
  obtain ⟨i1, hi1, hw0, hw1, hw2⟩ := info_parts Tryz.infoKy'
  obtain ⟨a, cap, rfl, hl, hc⟩ := h
  by_cases h0 : a = none
  · subst h0
    have he : es = [] := by
      rcases hc with h | ⟨b, off, e, _⟩
      · exact h
      · cases e
    subst he
    clear hc
    go_enter Tryz.func25, Tryz.ntmps25
    go_wp2
    go_ret
    exact ⟨_, rfl, World.ownsRow_nil _ _ _ _, Below.refl _ _⟩
  · obtain ⟨ad, rfl⟩ : ∃ ad, a = some ad := by cases a with | none => exact absurd rfl h0 | some x => exact ⟨x, rfl⟩
    have HC : Hid (∀ j u, (kc es)[j]? = some u → w.cell? (ad.add j) = some u) := by
      rcases hc with h | ⟨b, off, e, _, hc⟩
      · subst h; intro j u hu; simp [kc] at hu
      · cases e; intro j u hu; rw [add_plain']; exact hc j u hu
    obtain ⟨n, hn⟩ : ∃ n, es.length = n := ⟨_, rfl⟩
    have HN : Hid (es.length = n ∧ (kc es).length = n * 2) := ⟨hn, by rw [kc_len, hn]⟩
    rw [hn] at hl ⊢
    clear hc h0 hn
    go_enter Tryz.func25, Tryz.ntmps25
    go_wp2_with (at_builtin; refine wpList_append_own _ rfl _ _ 33 rfl w.heap.size 29 i1 _ 2 24 Tryz.underlying33 hi1 hw0 hw1 hw2 rfl (by decide) _ 0 [] rfl (World.ownsRow_nil _ _ _ _) ad n cap (kc es) rfl HN.out.2 HC.out (kc_one' es) (by unfold maxLen; omega) (by omega) (Nat.le_refl _) ?_; intro v' w1 hown hgrow _; obtain ⟨av, cv, hv⟩ := owns_len hown; subst hv)
    go_ret
    refine ⟨_, rfl, ?_, below_grown hgrow⟩
    rw [Nat.zero_add, List.nil_append] at hown
    show World.ownsRow _ _ _ _ _ _ _
    rw [HN.out.1]; exact hown
theorem Tryz.cellsYes : Tryz.prog.cellsOf 4 = 1 := by kernel_rfl
theorem Tryz.cellsKey : Tryz.prog.cellsOf 29 = 2 := by kernel_rfl
theorem Tryz.cellsNode : Tryz.prog.cellsOf 32 = 4 := by kernel_rfl
theorem Tryz.cellsEnt : Tryz.prog.cellsOf 52 = 7 := by kernel_rfl
theorem Tryz.cellsSlK : Tryz.prog.cellsOf 33 = 1 := by kernel_rfl
theorem Tryz.bytesKey : Tryz.prog.bytesOf 29 = 24 := by kernel_rfl
theorem two {α : Type} {l : List α} (h : l.length = 2) : ∃ c0 c1, l = [c0, c1] := by
  match l, h with
  | [c0, c1], _ => exact ⟨c0, c1, rfl⟩
theorem three {α : Type} {l : List α} (h : l.length = 3) : ∃ c0 c1 c2, l = [c0, c1, c2] := by
  match l, h with
  | [c0, c1, c2], _ => exact ⟨c0, c1, c2, rfl⟩
theorem four {α : Type} {l : List α} (h : l.length = 4) : ∃ c0 c1 c2 c3, l = [c0, c1, c2, c3] := by
  match l, h with
  | [c0, c1, c2, c3], _ => exact ⟨c0, c1, c2, c3, rfl⟩
theorem ten {α : Type} {l : List α} (h : l.length = 10) : ∃ c0 c1 c2 c3 c4 c5 c6 c7 c8 c9, l = [c0, c1, c2, c3, c4, c5, c6, c7, c8, c9] := by
  match l, h with
  | [c0, c1, c2, c3, c4, c5, c6, c7, c8, c9], _ => exact ⟨c0, c1, c2, c3, c4, c5, c6, c7, c8, c9, rfl⟩
theorem weightsAll_mem {H : Type} {P : Program} {e : TypeId} {d : DataW H} {n : Nat} : ∀ {ds : List (DataW H)}, d ∈ ds → n ∈ d.weights P e → n ∈ DataW.weightsAll P e ds
  | [], h, _ => by cases h
  | d0 :: ds, h, hn => by
    simp only [DataW.weightsAll, List.mem_append]
    rcases List.mem_cons.1 h with rfl | h
    · exact .inl hn
    · exact .inr (weightsAll_mem h hn)
/-- what a slice weighs -/
theorem weights_slice {H : Type} {P : Program} {t e : TypeId} {elems spare : List (DataW H)} (hu : P.underlying t = some (.slice e)) (h : ∀ n ∈ (DataW.slice elems spare).weights P t, n ≤ reachBytes) : elems.length * P.bytesOf e ≤ reachBytes := by
  simp only [DataW.weights, hu] at h
  exact Nat.le_trans (Nat.mul_le_mul_right _ (Nat.le_add_right _ _)) (h _ (List.mem_cons_self ..))

section
variable {H : Type} {enc : TypeId × Value → H} {W : World}
theorem ky_of {fuel : Nat} {cs : List Value} {x : DataW H × List MemPlace} (h : DataW.trod enc Tryz.prog W 0 (fun _ => true) true fuel 29 cs = some x) : ∃ p : Ky, cs = [.int .i64 p.d, .string p.nm] := by
  obtain ⟨xs, n, _, rfl, hl, hlen, hf⟩ := DataW.trod_struct Tryz.underlying29 h
  rw [Tryz.cellsKey] at hl
  obtain ⟨c0, c1, rfl⟩ := two hl
  obtain ⟨y0, y1, rfl⟩ := two (l := xs) (by simpa using hlen)
  have h0 : DataW.trod enc Tryz.prog W 0 (fun _ => true) true n 3 (([c0, c1].drop 0).take (Tryz.prog.cellsOf 3)) = some y0 := hf 0 _ rfl
  have h1 : DataW.trod enc Tryz.prog W 0 (fun _ => true) true n 9 (([c0, c1].drop 1).take (Tryz.prog.cellsOf 9)) = some y1 := hf 1 _ rfl
  rw [Tryz.cellsWord] at h0
  rw [Tryz.cellsText] at h1
  obtain ⟨p0, e0, _, _⟩ := DataW.trod_int Tryz.underlying3 h0
  obtain ⟨p1, e1, _, _⟩ := DataW.trod_string Tryz.underlying9 h1
  simp at e0 e1
  subst e0 e1
  exact ⟨⟨p0, p1⟩, rfl⟩
theorem nd_of {fuel : Nat} {cs : List Value} {x : DataW H × List MemPlace} (h : DataW.trod enc Tryz.prog W 0 (fun _ => true) true fuel 32 cs = some x) : ∃ (i k m : Int) (t : ByteArray), cs = [.int .i64 i, .int .i64 k, .int .i64 m, .string t] := by
  obtain ⟨xs, n, _, rfl, hl, hlen, hf⟩ := DataW.trod_struct Tryz.underlying32 h
  rw [Tryz.cellsNode] at hl
  obtain ⟨c0, c1, c2, c3, rfl⟩ := four hl
  obtain ⟨y0, y1, y2, y3, rfl⟩ := four (l := xs) (by simpa using hlen)
  have h0 : DataW.trod enc Tryz.prog W 0 (fun _ => true) true n 3 (([c0, c1, c2, c3].drop 0).take (Tryz.prog.cellsOf 3)) = some y0 := hf 0 _ rfl
  have h1 : DataW.trod enc Tryz.prog W 0 (fun _ => true) true n 3 (([c0, c1, c2, c3].drop 1).take (Tryz.prog.cellsOf 3)) = some y1 := hf 1 _ rfl
  have h2 : DataW.trod enc Tryz.prog W 0 (fun _ => true) true n 3 (([c0, c1, c2, c3].drop 2).take (Tryz.prog.cellsOf 3)) = some y2 := hf 2 _ rfl
  have h3 : DataW.trod enc Tryz.prog W 0 (fun _ => true) true n 9 (([c0, c1, c2, c3].drop 3).take (Tryz.prog.cellsOf 9)) = some y3 := hf 3 _ rfl
  rw [Tryz.cellsWord] at h0 h1 h2
  rw [Tryz.cellsText] at h3
  obtain ⟨p0, e0, _, _⟩ := DataW.trod_int Tryz.underlying3 h0
  obtain ⟨p1, e1, _, _⟩ := DataW.trod_int Tryz.underlying3 h1
  obtain ⟨p2, e2, _, _⟩ := DataW.trod_int Tryz.underlying3 h2
  obtain ⟨p3, e3, _, _⟩ := DataW.trod_string Tryz.underlying9 h3
  simp at e0 e1 e2 e3
  subst e0 e1 e2 e3
  exact ⟨p0, p1, p2, p3, rfl⟩
theorem en_of {fuel : Nat} {cs : List Value} {x : DataW H × List MemPlace} (h : DataW.trod enc Tryz.prog W 0 (fun _ => true) true fuel 52 cs = some x) : ∃ p : En, cs = p.vals := by
  obtain ⟨xs, n, _, rfl, hl, hlen, hf⟩ := DataW.trod_struct Tryz.underlying52 h
  rw [Tryz.cellsEnt] at hl
  obtain ⟨c0, c1, c2, c3, c4, c5, c6, rfl⟩ := seven hl
  obtain ⟨y0, y1, y2, rfl⟩ := three (l := xs) (by simpa using hlen)
  have h0 : DataW.trod enc Tryz.prog W 0 (fun _ => true) true n 29 (([c0, c1, c2, c3, c4, c5, c6].drop 0).take (Tryz.prog.cellsOf 29)) = some y0 := hf 0 _ rfl
  have h1 : DataW.trod enc Tryz.prog W 0 (fun _ => true) true n 4 (([c0, c1, c2, c3, c4, c5, c6].drop 2).take (Tryz.prog.cellsOf 4)) = some y1 := hf 1 _ rfl
  have h2 : DataW.trod enc Tryz.prog W 0 (fun _ => true) true n 32 (([c0, c1, c2, c3, c4, c5, c6].drop 3).take (Tryz.prog.cellsOf 32)) = some y2 := hf 2 _ rfl
  rw [Tryz.cellsKey] at h0
  rw [Tryz.cellsYes] at h1
  rw [Tryz.cellsNode] at h2
  obtain ⟨p0, e0⟩ := ky_of h0
  obtain ⟨p1, e1, _⟩ := DataW.trod_bool Tryz.underlying4 h1
  obtain ⟨i, k, m, t, e2⟩ := nd_of h2
  simp at e0 e1 e2
  obtain ⟨rfl, rfl⟩ := e0
  subst e1
  obtain ⟨rfl, rfl, rfl, rfl⟩ := e2
  exact ⟨⟨p0.d, p0.nm, p1, i, k, m, t⟩, rfl⟩
end
theorem kc_get' (ks : List Ky) (i j : Nat) (p : Ky) (h : ks[i]? = some p) (hj : j < 2) : (kc ks)[i * 2 + j]? = ([.int .i64 p.d, .string p.nm] : List Value)[j]? := by
  obtain ⟨h0, h1⟩ := kc_get ks i p h
  have : j = 0 ∨ j = 1 := by omega
  rcases this with rfl | rfl
  · exact h0
  · exact h1
section
variable {H : Type} {enc : TypeId × Value → H} {W : World}
theorem argK_of {fuel : Nat} {v : Value} {x : DataW H × List MemPlace} (h : DataW.trod enc Tryz.prog W 0 (fun _ => true) true fuel 33 [v] = some x) (hw : ∀ n ∈ x.1.weights Tryz.prog 33, n ≤ reachBytes) : ∃ ks, ArgK W v ks := by
  rcases Go.Deep.open_slice Tryz.underlying33 h with ⟨hcs, hx⟩ | ⟨a', len, cap, m, n, D, Pl, hcs, hb, hl, hm, hmm, rfl, hel⟩
  · simp at hcs
    subst hcs
    exact ⟨[], _, _, rfl, by simp, .inl rfl⟩
  · simp at hcs
    subst hcs
    simp only [if_true] at hmm
    subst hmm
    have hlen : len * 24 ≤ 140737488351232 := by
      have := weights_slice Tryz.underlying33 hw
      rw [Tryz.bytesKey] at this
      simp [reachBytes] at this
      omega
    by_cases h0 : len = 0
    · subst h0; exact ⟨[], _, _, rfl, by simp, .inl rfl⟩
    have key : ∀ i, i < len → ∃ p : Ky, ∀ r u, ([.int .i64 p.d, .string p.nm] : List Value)[r]? = some u → W.cell? ((a'.add (i * 2)).add r) = some u := by
      intro i hi
      obtain ⟨cs', hc, ht⟩ := hel i (by omega)
      rw [Tryz.cellsKey] at hc
      obtain ⟨_, hlen', hget⟩ := World.cells?_some hc
      obtain ⟨p, rfl⟩ := ky_of ht
      refine ⟨p, fun r u hu => ?_⟩
      have hr : r < 2 := by have := (List.getElem?_eq_some_iff.1 hu).1; simpa using this
      have := hget r (by omega)
      rw [hu] at this
      exact this
    have iO : Inhabited Ky := ⟨⟨0, ⟨#[]⟩⟩⟩
    obtain ⟨X, hX⟩ := Go.Deep.choose_lt (α := Ky) key
    obtain ⟨b, off, spot⟩ := a'
    have hc0 := hX 0 (by omega) 0 _ rfl
    have hs := World.cell?_spot hc0
    have hspot : spot = none := by simpa [Addr.add] using hs
    subst hspot
    have hlt : b < W.heap.size := cellLt hc0
    refine ⟨(List.range len).map X, some ⟨b, off, none⟩, _, by simp; rfl, by simpa using hlen, .inr ⟨b, off, rfl, hlt, fun j u hu => ?_⟩⟩
    have hj : j < len * 2 := by have := (List.getElem?_eq_some_iff.1 hu).1; rw [kc_len] at this; simpa using this
    have hi : j / 2 < len := by omega
    have he : ((List.range len).map X)[j / 2]? = some (X (j / 2)) := by rw [List.getElem?_map, List.getElem?_range hi]; rfl
    have hg := kc_get' _ (j / 2) (j % 2) _ he (by omega)
    rw [show j / 2 * 2 + j % 2 = j by omega, hu] at hg
    have := hX (j / 2) hi (j % 2) u hg.symm
    rw [add_plain', add_plain', show off + j / 2 * 2 + j % 2 = off + j by omega] at this
    exact this
theorem argK_tr {v : Value} {d : DataW H} {ps : List MemPlace} (h : DataW.Trod enc Tryz.prog W 0 (fun _ => true) true 33 v d ps) (hw : ∀ n ∈ d.weights Tryz.prog 33, n ≤ reachBytes) (hv : ∃ a len cap, v = .slice a len cap) : ∃ ks, ArgK W v ks ∧ ∀ a n c, v = .slice a n c → n ≤ c := by
  obtain ⟨fuel, hf⟩ := h
  obtain ⟨a, len, cap, rfl⟩ := hv
  obtain ⟨ks, hk⟩ := argK_of (x := (d, ps)) hf hw
  refine ⟨ks, hk, fun a' n' c' e => ?_⟩
  cases e
  rcases Go.Deep.open_slice Tryz.underlying33 hf with ⟨hcs, hx⟩ | ⟨a', len', cap', m, n, D, Pl, hcs, hb, hl, -⟩
  · simp [Value.cells] at hcs
    omega
  · simp [Value.cells] at hcs
    obtain ⟨-, rfl, rfl⟩ := hcs
    exact hl
end
theorem weights_elems {H : Type} {P : Program} {t e : TypeId} {elems spare : List (DataW H)} (hu : P.underlying t = some (.slice e)) (h : ∀ n ∈ (DataW.slice elems spare).weights P t, n ≤ reachBytes) : ∀ d ∈ elems, ∀ n ∈ d.weights P e, n ≤ reachBytes := by
  simp only [DataW.weights, hu] at h
  exact fun d hd n hn => h n (List.mem_cons_of_mem _ (List.mem_append_left _ (weightsAll_mem hd hn)))
theorem Tryz.cellsDo : Tryz.prog.cellsOf 61 = 10 := by kernel_rfl
theorem Tryz.bytesDo : Tryz.prog.bytesOf 61 = 112 := by kernel_rfl
/-- a call of a script -/
structure DOp where
  kind : Int
  dir : Int
  e : En
  vk : Value
  ks : List Ky
def DOp.vals (x : DOp) : List Value := .int .i64 x.kind :: .int .i64 x.dir :: (x.e.vals ++ [x.vk])
/-- a script that came in -/
def RowD (w : World) (a : Option Addr) (ops : List DOp) : Prop := ops = [] ∨ ∃ b off, a = some ⟨b, off, none⟩ ∧ b < w.heap.size ∧ ∀ (i : Nat) x, ops[i]? = some x → (∀ (j : Nat) u, x.vals[j]? = some u → w.cell? ⟨b, off + i * 10 + j, none⟩ = some u) ∧ ArgK w x.vk x.ks
theorem RowD.below {w w' : World} {a : Option Addr} {ops : List DOp} (h : RowD w a ops) (hb : Below w.heap.size w w') : RowD w' a ops := by
  rcases h with h | ⟨b, off, rfl, hs, hc⟩
  · exact .inl h
  · exact .inr ⟨b, off, rfl, Nat.lt_of_lt_of_le hs hb.size, fun i x hx => ⟨fun j u hu => (hb.cell (p := ⟨b, off + i * 10 + j, none⟩) hs).trans ((hc i x hx).1 j u hu), (hc i x hx).2.below hb⟩⟩
/-- one of a script's calls -/
theorem RowD.get {w : World} {a : Option Addr} {ops : List DOp} (h : RowD w a ops) {i : Nat} (hi : i < ops.length) : ∃ b off x, a = some ⟨b, off, none⟩ ∧ ops[i]? = some x ∧ b < w.heap.size ∧ (∀ (j : Nat) u, x.vals[j]? = some u → w.cell? ⟨b, off + i * 10 + j, none⟩ = some u) ∧ ArgK w x.vk x.ks := by
  rcases h with h | ⟨b, off, rfl, hs, hc⟩
  · subst h; simp at hi
  · exact ⟨b, off, ops[i], rfl, List.getElem?_eq_getElem hi, hs, hc i _ (List.getElem?_eq_getElem hi)⟩
section
variable {H : Type} {enc : TypeId × Value → H} {W : World}
set_option maxRecDepth 100000 in
theorem dop_of {fuel : Nat} {cs : List Value} {x : DataW H × List MemPlace} (h : DataW.trod enc Tryz.prog W 0 (fun _ => true) true fuel 61 cs = some x) (hw : ∀ n ∈ x.1.weights Tryz.prog 61, n ≤ reachBytes) : ∃ p : DOp, cs = p.vals ∧ ArgK W p.vk p.ks := by
  obtain ⟨xs, n, _, rfl, hl, hlen, hf⟩ := DataW.trod_struct Tryz.underlying61 h
  rw [Tryz.cellsDo] at hl
  obtain ⟨c0, c1, c2, c3, c4, c5, c6, c7, c8, c9, rfl⟩ := ten hl
  obtain ⟨y0, y1, y2, y3, rfl⟩ := four (l := xs) (by simpa using hlen)
  have h0 : DataW.trod enc Tryz.prog W 0 (fun _ => true) true n 3 (([c0, c1, c2, c3, c4, c5, c6, c7, c8, c9].drop 0).take (Tryz.prog.cellsOf 3)) = some y0 := hf 0 _ rfl
  have h1 : DataW.trod enc Tryz.prog W 0 (fun _ => true) true n 3 (([c0, c1, c2, c3, c4, c5, c6, c7, c8, c9].drop 1).take (Tryz.prog.cellsOf 3)) = some y1 := hf 1 _ rfl
  have h2 : DataW.trod enc Tryz.prog W 0 (fun _ => true) true n 52 (([c0, c1, c2, c3, c4, c5, c6, c7, c8, c9].drop 2).take (Tryz.prog.cellsOf 52)) = some y2 := hf 2 _ rfl
  have h3 : DataW.trod enc Tryz.prog W 0 (fun _ => true) true n 33 (([c0, c1, c2, c3, c4, c5, c6, c7, c8, c9].drop 9).take (Tryz.prog.cellsOf 33)) = some y3 := hf 3 _ rfl
  rw [Tryz.cellsWord] at h0 h1
  rw [Tryz.cellsEnt] at h2
  rw [Tryz.cellsSlK] at h3
  obtain ⟨p0, e0, _, _⟩ := DataW.trod_int Tryz.underlying3 h0
  obtain ⟨p1, e1, _, _⟩ := DataW.trod_int Tryz.underlying3 h1
  obtain ⟨e, e2⟩ := en_of h2
  simp at e0 e1
  obtain ⟨ks, hks⟩ := argK_of (v := c9) (x := y3) (by simpa using h3) (fun n hn => hw n (by
    simp only [DataW.weights, Tryz.underlying61]
    exact DataW.weights_mem_each (j := 3) rfl rfl n hn))
  have e3 : [c2, c3, c4, c5, c6, c7, c8] = e.vals := by simpa using e2
  refine ⟨⟨p0, p1, e, c9, ks⟩, ?_, hks⟩
  unfold DOp.vals
  simp only
  rw [← e3, e0, e1]; rfl
theorem rowD_of {a : Option Addr} {len cap : Nat} {d : DataW H} {ps : List MemPlace} (h : DataW.Trod enc Tryz.prog W 0 (fun _ => true) true 22 (.slice a len cap) d ps) (hw : ∀ n ∈ d.weights Tryz.prog 22, n ≤ reachBytes) :
    ∃ ops : List DOp, ops.length = len ∧ RowD W a ops ∧ len * 112 ≤ 140737488351232 := by
  obtain ⟨fuel, hf⟩ := h
  rcases Go.Deep.open_slice Tryz.underlying22 hf with ⟨hcs, hx⟩ | ⟨a', len', cap', m, n, D, Pl, hcs, hb, hl, hm, hmm, hx, hel⟩
  · simp [Value.cells] at hcs
    obtain ⟨rfl, rfl, rfl⟩ := hcs
    exact ⟨[], rfl, .inl rfl, by omega⟩
  · simp [Value.cells] at hcs
    obtain ⟨rfl, rfl, rfl⟩ := hcs
    simp only [if_true] at hmm
    subst hmm
    simp only [Prod.mk.injEq] at hx
    obtain ⟨rfl, -⟩ := hx
    have w1 := weights_slice Tryz.underlying22 hw
    have w2 := weights_elems Tryz.underlying22 hw
    rw [Tryz.bytesDo] at w1
    simp [reachBytes] at w1
    by_cases h0 : len = 0
    · exact ⟨[], h0.symm, .inl rfl, by omega⟩
    have key : ∀ i, i < len → ∃ o : DOp, (∀ r u, o.vals[r]? = some u → W.cell? ((a'.add (i * 10)).add r) = some u) ∧ ArgK W o.vk o.ks := by
      intro i hi
      obtain ⟨cs', hc, ht⟩ := hel i (by omega)
      rw [Tryz.cellsDo] at hc
      obtain ⟨_, hlen, hget⟩ := World.cells?_some hc
      obtain ⟨o, rfl, hk⟩ := dop_of ht (w2 (D i) (List.mem_map.2 ⟨i, List.mem_range.2 hi, rfl⟩))
      refine ⟨o, fun r u hu => ?_, hk⟩
      have hr : r < 10 := by have := (List.getElem?_eq_some_iff.1 hu).1; rw [hlen] at this; exact this
      have := hget r (by omega)
      rw [hu] at this
      exact this
    have iO : Inhabited DOp := ⟨⟨0, 0, zeroEn, .slice none 0 0, []⟩⟩
    obtain ⟨X, hX⟩ := Go.Deep.choose_lt (α := DOp) key
    obtain ⟨b, off, spot⟩ := a'
    have hc0 := (hX 0 (by omega)).1 0 _ rfl
    have hs := World.cell?_spot hc0
    have hspot : spot = none := by simpa [Addr.add] using hs
    subst hspot
    refine ⟨(List.range len).map X, by simp, .inr ⟨b, off, rfl, cellLt hc0, fun i o ho => ?_⟩, by omega⟩
    have hi : i < len := by have := (List.getElem?_eq_some_iff.1 ho).1; simpa using this
    rw [List.getElem?_map, List.getElem?_range hi] at ho
    cases ho
    refine ⟨fun j u hu => ?_, (hX i hi).2⟩
    have := (hX i hi).1 j u hu
    rw [add_plain', add_plain'] at this
    exact this
end
end
section
open Go.RowKit

theorem Tryz.sizeDo : (Tryz.prog.info? 61).map (·.size) = some 10 := by kernel_rfl
def DOp.agg (x : DOp) : Value := .agg x.vals.toArray
def doLd (v : Value) : Sem Value := Instr.loadAt 61 v
theorem loadDo (v : Value) : Instr.loadAt 61 v = doLd v := rfl
theorem doLd_at {w : World} {g o : Nat} {x : DOp} (h : ∀ (j : Nat) u, x.vals[j]? = some u → w.cell? ⟨g, o + j, none⟩ = some u) : (doLd (.pointer (some ⟨g, o, none⟩))).run Tryz.prog w = .ok x.agg w :=
  run_loadAt_mid (P := Tryz.prog) w g o 61 x.vals _ h Tryz.underlying61 rfl Tryz.sizeDo
attribute [irreducible] doLd
def doSt (a v : Value) : Sem Unit := Instr.storeAt 61 a v
theorem storeDo (a v : Value) : Instr.storeAt 61 a v = doSt a v := rfl
theorem dvals_one {x : DOp} (hk : x.vk.oneCell' = true) : ∀ v ∈ x.vals, v.oneCell' = true := by
  intro v hv
  unfold DOp.vals at hv
  rcases List.mem_cons.1 hv with rfl | hv
  · rfl
  rcases List.mem_cons.1 hv with rfl | hv
  · rfl
  rcases List.mem_append.1 hv with hv | hv
  · exact enVals_one x.e v hv
  · rw [List.mem_singleton.1 hv]; exact hk
theorem box10 (w : World) (x : DOp) (hk : x.vk.oneCell' = true) : (doSt (.pointer (some ⟨w.heap.size, 0, none⟩)) x.agg).run Tryz.prog (w.alloc (.cells #[.int .i64 0, .int .i64 0, .int .i64 0, .string ⟨#[]⟩, .bool false, .int .i64 0, .int .i64 0, .int .i64 0, .string ⟨#[]⟩, .slice none 0 0] 61)) = .ok () (w.alloc (.cells x.vals.toArray 61)) := by
  have h1 : x.vals.toArray.all (·.oneCell') = true := by rw [Array.all_eq_true']; intro v hv; exact dvals_one hk v (by simpa using hv)
  have := run_storeVar_row (P := Tryz.prog) _ w.heap.size 61 61 _ x.vals.toArray (heap_new w (.cells #[.int .i64 0, .int .i64 0, .int .i64 0, .string ⟨#[]⟩, .bool false, .int .i64 0, .int .i64 0, .int .i64 0, .string ⟨#[]⟩, .slice none 0 0] 61)) Tryz.sizeDo rfl h1
  rw [alloc_setRow] at this
  unfold doSt Instr.storeAt Instr.sureAddr DOp.agg
  simpa using this
attribute [irreducible] doSt
/-- a box with a call in it -/
structure BxD (w : World) (b : Nat) (x : DOp) : Prop where
  hh : w.heap[b]? = some (.cells x.vals.toArray 61 (0, 0))
theorem BxD.kind {w : World} {b : Nat} {x : DOp} (h : BxD w b x) : w.cell? ⟨b, 0, none⟩ = some (.int .i64 x.kind) := by rw [cell_of h.hh]; rfl
theorem BxD.dir {w : World} {b : Nat} {x : DOp} (h : BxD w b x) : w.cell? ⟨b, 1, none⟩ = some (.int .i64 x.dir) := by rw [cell_of h.hh]; rfl
theorem BxD.keys {w : World} {b : Nat} {x : DOp} (h : BxD w b x) : w.cell? ⟨b, 9, none⟩ = some x.vk := by rw [cell_of h.hh]; rfl
theorem BxD.ent {w : World} {b : Nat} {x : DOp} (h : BxD w b x) : Cells7 w b 2 x.e := ⟨by rw [cell_of h.hh]; rfl, by rw [cell_of h.hh]; rfl, by rw [cell_of h.hh]; rfl, by rw [cell_of h.hh]; rfl, by rw [cell_of h.hh]; rfl, by rw [cell_of h.hh]; rfl, by rw [cell_of h.hh]; rfl⟩
theorem BxD.moved {w w' : World} {b : Nat} {x : DOp} (h : BxD w b x) (e : w'.heap[b]? = w.heap[b]?) : BxD w' b x := ⟨e.trans h.hh⟩
theorem BxD.below {w w' : World} {b : Nat} {x : DOp} (h : BxD w b x) (hb : Below w.heap.size w w') : BxD w' b x := ⟨hkeep h.hh hb⟩
theorem ArgK.one {w : World} {v : Value} {ks : List Ky} (h : ArgK w v ks) : v.oneCell' = true := by
  obtain ⟨a, cap, rfl, _⟩ := h
  rfl
/-- what a call does to a cache -/
def opS (s : Cs) (x : DOp) : Cs :=
  if placeV x.kind 6 = 0 then putS s x.e
  else if placeV x.kind 6 = 1 then s.use x.e.key
  else if placeV x.kind 6 = 2 then s.cut x.ks
  else if placeV x.kind 6 = 3 then Cs.clear
  else if placeV x.kind 6 = 4 then s.evict x.e.key
  else s.setW x.dir
def runS (ops : List DOp) : Cs := ops.foldl opS Cs.clear
theorem runS_snoc (ops : List DOp) (i : Nat) (x : DOp) (h : ops[i]? = some x) : runS (ops.take (i + 1)) = opS (runS (ops.take i)) x := by
  unfold runS
  rw [List.take_add_one, h, List.foldl_append]; rfl
theorem place6 (v : Int) : placeV v 6 = 0 ∨ placeV v 6 = 1 ∨ placeV v 6 = 2 ∨ placeV v 6 = 3 ∨ placeV v 6 = 4 ∨ placeV v 6 = 5 := by
  have := placeV_bd v 6 (by omega)
  omega
/-- the whole directories -/
theorem putS_W (s : Cs) (e : En) : (putS s e).W = s.W := by unfold putS; split <;> rfl
theorem use_W (s : Cs) (k : Ky) : (s.use k).W = s.W := by
  unfold Cs.use
  split <;> rfl
theorem cut_W (ks : List Ky) : ∀ (s : Cs) (d : Int), d ∈ (s.cut ks).W ↔ d ∈ s.W ∧ ∀ k ∈ ks, k.d ≠ d := by
  unfold Cs.cut
  induction ks with
  | nil => intro s d; simp
  | cons k ks ih =>
    intro s d
    rw [List.foldl_cons, ih (s.cut1 k) d]
    show d ∈ partW s.W k.d ∧ _ ↔ _
    rw [mem_partW]
    simp only [List.mem_cons, forall_eq_or_imp]
    exact ⟨fun ⟨⟨h1, h2⟩, h3⟩ => ⟨h1, fun e => h2 e.symm, h3⟩, fun ⟨h1, h2, h3⟩ => ⟨⟨h1, fun e => h2 e.symm⟩, h3⟩⟩
theorem evict_W (s : Cs) (k : Ky) (d : Int) : d ∈ (s.evict k).W ↔ d ∈ s.W ∧ ¬ (∃ e, getL s.L k = some e ∧ e.neg = false ∧ k.d = d) := by
  unfold Cs.evict
  cases hg : getL s.L k with
  | none => simp
  | some e =>
    cases hn : e.neg with
    | true => simp [hn]
    | false =>
      show (d ∈ if e.neg = true then s.W else partW s.W k.d) ↔ _
      rw [hn, if_neg (by decide), mem_partW]
      constructor
      · rintro ⟨h1, h2⟩
        exact ⟨h1, fun ⟨e', _, _, h3⟩ => h2 h3.symm⟩
      · rintro ⟨h1, h2⟩
        exact ⟨h1, fun h3 => h2 ⟨e, rfl, hn, h3.symm⟩⟩
end
end Go.Proofs.YtmndnjgbbpkidaaGreat
