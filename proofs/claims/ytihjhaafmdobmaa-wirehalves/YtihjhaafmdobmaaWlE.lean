/- Encode and Decode, as the laws meet them. -/
import Derived.Test.YtihjhaafmdobmaaWlD
namespace Go.Proofs.Ytihjhaafmdobmaa
open Go.RowKit Go.Lib

theorem flat_len {α : Type} {B : α → List Int} {n : Nat} : ∀ {l : List α}, (∀ x ∈ l, (B x).length ≤ n) → (l.flatMap B).length ≤ l.length * n
  | [], _ => by simp
  | a :: l, h => by
    rw [List.flatMap_cons, List.length_append, List.length_cons]
    have h1 := h a (List.mem_cons_self ..)
    have h2 := flat_len (B := B) (n := n) (l := l) fun x hx => h x (List.mem_cons_of_mem _ hx)
    rw [Nat.add_mul, Nat.one_mul]; omega
theorem opB_len {o : Opn} (h : opOk o) : (opB o).length ≤ 400 := by
  obtain ⟨_, b1, b2, b3, b4, b5, b6⟩ := h
  have c1 := numI_len b1
  have c2 := numI_len b2
  have c3 := numI_len b3
  have c4 := textB_len b4
  have c5 := textB_len b5
  have c6 := textB_len b6
  unfold opB
  simp only [List.length_append, List.length_cons]
  omega
theorem bodyB_len {m : Mg} (h : bodyOk m) : (bodyB m).length ≤ 15000 := by
  unfold bodyB
  rcases h with ⟨h1, h2, _⟩ | ⟨h1, _, h3, h2, _⟩ | ⟨h1, _, _, _, h3, h2⟩ | ⟨h1, _⟩
  · rw [if_pos h1]; have := opB_len h2; omega
  · rw [if_neg (by omega), if_pos h1, List.length_append]
    have := numI_len (v := (m.es.length : Int)) (by unfold numOk; omega)
    have := flat_len (B := entB) (n := 300) (l := m.es) fun x hx => entB_len (h2 x hx)
    omega
  · rw [if_neg (by omega), if_neg (by omega), if_pos h1, List.length_append]
    have := numI_len (v := (m.ks.length : Int)) (by unfold numOk; omega)
    have := flat_len (B := keyB) (n := 300) (l := m.ks) fun x hx => keyB_len (h2 x hx)
    omega
  · rw [if_neg (by omega), if_neg (by omega), if_neg (by omega)]; simp
theorem msgB_len {m : Mg} (h : msgOk m) : (msgB m).length ≤ 20000 := by
  have e := msg_step [] m
  rw [List.nil_append, List.nil_append] at e
  rw [← e, List.length_append, List.length_append]
  have := headB_len h.1
  have := bodyB_len h.2
  simp; omega
theorem msgOk.few {m : Mg} (h : msgOk m) : m.es.length ≤ 48 ∧ m.ks.length ≤ 48 := by
  rcases h.2 with ⟨_, _, e1, e2⟩ | ⟨_, _, h1, _, e2⟩ | ⟨_, _, e1, _, h1, _⟩ | ⟨_, _, e1, e2⟩
  · rw [e1, e2]; simp
  · rw [e2]; exact ⟨h1, by simp⟩
  · rw [e1]; exact ⟨by simp, h1⟩
  · rw [e1, e2]; simp
/-- bytes of a plain message are read as that one -/
theorem decode_yes {m : Mg} (hok : msgOk m) (v : Value) (w : World) (hr : RC w v (msgB m)) : Calls Try.prog 29 #[v] w fun e w' => ∃ ae ce ak ck, e = .returned (.tuple #[.agg #[.int .i64 m.kind, .int .i64 m.client, .int .i64 m.life, .int .i64 m.seq, .complex .f64 (floatOfInt .f64 m.ep) (floatOfInt .f64 m.nb), .int .i64 m.vers, .int .i64 m.err, .int .i64 m.op.kind, .int .i64 m.op.dir, .string m.op.nm, .int .i64 m.op.dst, .string m.op.new, .int .i64 m.op.mode, .string m.op.tg, .slice ae m.es.length ce, .slice ak m.ks.length ck], .int .i64 0]) ∧ Row7 w' w.heap.size (.slice ae m.es.length ce) m.es ∧ RowK w' w.heap.size (.slice ak m.ks.length ck) m.ks ∧ Below w.heap.size w w' := by
  refine (decode_p v (msgB m) w hr (msgB_byt hok) (by have := msgB_len hok; omega)).mono fun e w' h => ?_
  rcases h with ⟨m', ve, vk, hok', hB, he, h1, h2, hb⟩ | ⟨hno, _⟩
  · have := msgB_inj hok' hok hB
    subst this
    obtain ⟨ae, ce, rfl⟩ := owns_len h1
    obtain ⟨ak, ck, rfl⟩ := owns_len h2
    exact ⟨ae, ce, ak, ck, he, h1, h2, hb⟩
  · exact absurd rfl (hno m hok)
theorem decode_no {l : List Int} (hno : ∀ m, msgOk m → msgB m ≠ l) (v : Value) (w : World) (hr : RC w v l) (hl : Byt l) (hlim : l.length ≤ 140737488355328) : Calls Try.prog 29 #[v] w fun e w' => e = .returned (.tuple #[.agg #[.int .i64 0, .int .i64 0, .int .i64 0, .int .i64 0, .complex .f64 0 0, .int .i64 0, .int .i64 0, .int .i64 0, .int .i64 0, .string ⟨#[]⟩, .int .i64 0, .string ⟨#[]⟩, .int .i64 0, .string ⟨#[]⟩, .slice none 0 0, .slice none 0 0], .int .i64 50]) ∧ Below w.heap.size w w' := by
  refine (decode_p v l w hr hl hlim).mono fun e w' h => ?_
  rcases h with ⟨m', ve, vk, hok', hB, _⟩ | ⟨_, he, hb⟩
  · exact absurd hB (hno m' hok')
  · exact ⟨he, hb⟩
theorem EncR.yes {B : List Int} {w w' : World} {e : Ending} (h : EncR true B w w' e) : ∃ a c, e = .returned (.tuple #[.slice a B.length c, .int .i64 0]) ∧ OwnB w' w.heap.size (.slice a B.length c) B ∧ Below w.heap.size w w' := by
  rcases h with ⟨_, v, he, ho, hb⟩ | ⟨h0, _⟩
  · obtain ⟨a, c, hv⟩ := owns_len ho
    subst hv
    exact ⟨a, c, he, ho, hb⟩
  · cases h0
theorem EncR.no {B : List Int} {w w' : World} {e : Ending} (h : EncR false B w w' e) : e = .returned (.tuple #[.slice none 0 0, .int .i64 50]) ∧ Below w.heap.size w w' := by
  rcases h with ⟨h0, _⟩ | ⟨_, he, hb⟩
  · cases h0
  · exact ⟨he, hb⟩
/-- what a message as plain data says -/
def Mm.mg (m : Mm) : Mg := (m.ms (.slice none 0 0) (.slice none 0 0)).mg
def Mm.plain (m : Mm) : Bool := plainB (m.ms (.slice none 0 0) (.slice none 0 0))
theorem Mm.plain_iff (m : Mm) : m.plain = true ↔ goodB (floatOfInt .f64 m.ep) (floatOfInt .f64 m.nb) = true ∧ msgOk m.mg := plainB_iff _
/-- Encode of a message that was made of plain data -/
theorem encode_m (m : Mm) (ve vk : Value) (w : World) (he : Row7 w 0 ve m.es) (hk : RowK w 0 vk m.ks) : Calls Try.prog 24 #[.agg (m.ms ve vk).arr] w fun e w' => EncR m.plain (msgB m.mg) w w' e := encode_p (m.ms ve vk) w ⟨he, hk⟩
/-- .. of one that was read -/
theorem encode_v (m : Mg) (hok : msgOk m) (ve vk : Value) (w : World) (he : Row7 w 0 ve m.es) (hk : RowK w 0 vk m.ks) : Calls Try.prog 24 #[.agg (MsV m ve vk).arr] w fun e w' => ∃ a c, e = .returned (.tuple #[.slice a (msgB m).length c, .int .i64 0]) ∧ OwnB w' w.heap.size (.slice a (msgB m).length c) (msgB m) ∧ Below w.heap.size w w' := by
  have h := encode_p (MsV m ve vk) w ⟨he, hk⟩
  rw [(MsV_plain hok.1.ep hok.1.nb).2 hok, MsV_mg hok.1.ep hok.1.nb] at h
  exact h.mono fun e w' hh => hh.yes
theorem cmpU (n k : Int) : compare (n * U) (k * U) = compare n k := compare_mul n k U U_pos

/-- how two whole numbers stand -/
theorem order_whole {x y : Nat} {n k : Int} (hx : fval x = some (n * U)) (hy : fval y = some (k * U)) : FloatKind.f64.format.order x y = some (compare n k) := by
  have := order_val hx hy
  rwa [cmpU] at this
/-- a mark that was written and read is that mark -/
theorem mark_back {a b : Nat} (h : goodB a b = true) : FloatKind.f64.format.order (floatOfInt .f64 (part a)) a = some .eq ∧ FloatKind.f64.format.order (floatOfInt .f64 (part b)) b = some .eq := by
  obtain ⟨h1, h2, h3, h4, h5, h6⟩ := good_parts h
  refine ⟨?_, ?_⟩
  · rw [order_whole (ofInt_val (part a) (by omega)) h5, Int.compare_eq_eq.2 rfl]
  · rw [order_whole (ofInt_val (part b) (by omega)) h6, Int.compare_eq_eq.2 rfl]
end Go.Proofs.Ytihjhaafmdobmaa
