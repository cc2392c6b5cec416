/- Encode and Decode, as the laws meet them. -/
import Derived.Test.YtekonakanieeaaaJWEpt34
import Derived.Test.YtekonakanieeaaaJWEpt21
import Derived.Test.YtekonakanieeaaaJWEpt22
import Derived.Test.YtekonakanieeaaaJWEpt23
import Derived.Test.YtekonakanieeaaaJWEpt24
import Derived.Test.YtekonakanieeaaaJWEpt32
import Derived.ProofKit
import Derived.OpenShut
import Derived.Deep.Slices
import Derived.SizedLaws
import Derived.Lib.SmallJoins
namespace Go.Proofs.Ytekonakanieeaaa
section
open Go.RowKit Go.Lib

theorem flat_len {α : Type} {B : α → List Int} {n : Nat} : ∀ {l : List α}, (∀ x ∈ l, (B x).length ≤ n) → (l.flatMap B).length ≤ l.length * n
  | [], _ => by simp
  | a :: l, h => by
    rw [List.flatMap_cons, List.length_append, List.length_cons]
    have h1 := h a (List.mem_cons_self ..)
    have h2 := flat_len (B := B) (n := n) (l := l) fun x hx => h x (List.mem_cons_of_mem _ hx)
    rw [Nat.add_mul, Nat.one_mul]; omega
theorem opB_len {o : Opn} (h : opOk o) : (opB o).length ≤ 400 := by
  obtain ⟨_, b1, b2, b3, b4, b5, b6⟩ := h
  have c1 := numI_len b1
  have c2 := numI_len b2
  have c3 := numI_len b3
  have c4 := textB_len b4
  have c5 := textB_len b5
  have c6 := textB_len b6
  unfold opB
  simp only [List.length_append, List.length_cons]
  omega
theorem bodyB_len {m : Mg} (h : bodyOk m) : (bodyB m).length ≤ 15000 := by
  unfold bodyB
  rcases h with ⟨h1, h2, _⟩ | ⟨h1, _, h3, h2, _⟩ | ⟨h1, _, _, _, h3, h2⟩ | ⟨h1, _⟩
  · rw [if_pos h1]; have := opB_len h2; omega
  · rw [if_neg (by omega), if_pos h1, List.length_append]
    have := numI_len (v := (m.es.length : Int)) (by unfold numOk; omega)
    have := flat_len (B := entB) (n := 300) (l := m.es) fun x hx => entB_len (h2 x hx)
    omega
  · rw [if_neg (by omega), if_neg (by omega), if_pos h1, List.length_append]
    have := numI_len (v := (m.ks.length : Int)) (by unfold numOk; omega)
    have := flat_len (B := keyB) (n := 300) (l := m.ks) fun x hx => keyB_len (h2 x hx)
    omega
  · rw [if_neg (by omega), if_neg (by omega), if_neg (by omega)]; simp
theorem msgB_len {m : Mg} (h : msgOk m) : (msgB m).length ≤ 20000 := by
  have e := msg_step [] m
  rw [List.nil_append, List.nil_append] at e
  rw [← e, List.length_append, List.length_append]
  have := headB_len h.1
  have := bodyB_len h.2
  simp; omega
theorem msgOk.few {m : Mg} (h : msgOk m) : m.es.length ≤ 48 ∧ m.ks.length ≤ 48 := by
  rcases h.2 with ⟨_, _, e1, e2⟩ | ⟨_, _, h1, _, e2⟩ | ⟨_, _, e1, _, h1, _⟩ | ⟨_, _, e1, e2⟩
  · rw [e1, e2]; simp
  · rw [e2]; exact ⟨h1, by simp⟩
  · rw [e1]; exact ⟨by simp, h1⟩
  · rw [e1, e2]; simp
/-- bytes of a plain message are read as that one -/
theorem decode_yes {m : Mg} (hok : msgOk m) (v : Value) (w : World) (hr : RC w v (msgB m)) : Calls Try.prog 6 #[v] w fun e w' => ∃ ae ce ak ck, e = .returned (.tuple #[.agg #[.int .i64 m.kind, .int .i64 m.client, .int .i64 m.life, .int .i64 m.seq, .complex .f64 (floatOfInt .f64 m.ep) (floatOfInt .f64 m.nb), .int .i64 m.vers, .int .i64 m.err, .int .i64 m.op.kind, .int .i64 m.op.dir, .string m.op.nm, .int .i64 m.op.dst, .string m.op.new, .int .i64 m.op.mode, .string m.op.tg, .slice ae m.es.length ce, .slice ak m.ks.length ck], .int .i64 0]) ∧ Row7 w' w.heap.size (.slice ae m.es.length ce) m.es ∧ RowK w' w.heap.size (.slice ak m.ks.length ck) m.ks ∧ Below w.heap.size w w' := by
  refine (decode_p v (msgB m) w hr (msgB_byt hok) (by have := msgB_len hok; omega)).mono fun e w' h => ?_
  rcases h with ⟨m', ve, vk, hok', hB, he, h1, h2, hb⟩ | ⟨hno, _⟩
  · have := msgB_inj hok' hok hB
    subst this
    obtain ⟨ae, ce, rfl⟩ := owns_len h1
    obtain ⟨ak, ck, rfl⟩ := owns_len h2
    exact ⟨ae, ce, ak, ck, he, h1, h2, hb⟩
  · exact absurd rfl (hno m hok)
theorem decode_no {l : List Int} (hno : ∀ m, msgOk m → msgB m ≠ l) (v : Value) (w : World) (hr : RC w v l) (hl : Byt l) (hlim : l.length ≤ 140737488355328) : Calls Try.prog 6 #[v] w fun e w' => e = .returned (.tuple #[.agg #[.int .i64 0, .int .i64 0, .int .i64 0, .int .i64 0, .complex .f64 0 0, .int .i64 0, .int .i64 0, .int .i64 0, .int .i64 0, .string ⟨#[]⟩, .int .i64 0, .string ⟨#[]⟩, .int .i64 0, .string ⟨#[]⟩, .slice none 0 0, .slice none 0 0], .int .i64 50]) ∧ Below w.heap.size w w' := by
  refine (decode_p v l w hr hl hlim).mono fun e w' h => ?_
  rcases h with ⟨m', ve, vk, hok', hB, _⟩ | ⟨_, he, hb⟩
  · exact absurd hB (hno m' hok')
  · exact ⟨he, hb⟩
theorem EncR.yes {B : List Int} {w w' : World} {e : Ending} (h : EncR true B w w' e) : ∃ a c, e = .returned (.tuple #[.slice a B.length c, .int .i64 0]) ∧ OwnB w' w.heap.size (.slice a B.length c) B ∧ Below w.heap.size w w' := by
  rcases h with ⟨_, v, he, ho, hb⟩ | ⟨h0, _⟩
  · obtain ⟨a, c, hv⟩ := owns_len ho
    subst hv
    exact ⟨a, c, he, ho, hb⟩
  · cases h0
theorem EncR.no {B : List Int} {w w' : World} {e : Ending} (h : EncR false B w w' e) : e = .returned (.tuple #[.slice none 0 0, .int .i64 50]) ∧ Below w.heap.size w w' := by
  rcases h with ⟨h0, _⟩ | ⟨_, he, hb⟩
  · cases h0
  · exact ⟨he, hb⟩
/-- what a message as plain data says -/
def Mm.mg (m : Mm) : Mg := (m.ms (.slice none 0 0) (.slice none 0 0)).mg
def Mm.plain (m : Mm) : Bool := plainB (m.ms (.slice none 0 0) (.slice none 0 0))
theorem Mm.plain_iff (m : Mm) : m.plain = true ↔ goodB (floatOfInt .f64 m.ep) (floatOfInt .f64 m.nb) = true ∧ msgOk m.mg := plainB_iff _
/-- Encode of a message that was made of plain data -/
theorem encode_m (m : Mm) (ve vk : Value) (w : World) (he : Row7 w 0 ve m.es) (hk : RowK w 0 vk m.ks) : Calls Try.prog 16 #[.agg (m.ms ve vk).arr] w fun e w' => EncR m.plain (msgB m.mg) w w' e := encode_p (m.ms ve vk) w ⟨he, hk⟩
/-- .. of one that was read -/
theorem encode_v (m : Mg) (hok : msgOk m) (ve vk : Value) (w : World) (he : Row7 w 0 ve m.es) (hk : RowK w 0 vk m.ks) : Calls Try.prog 16 #[.agg (MsV m ve vk).arr] w fun e w' => ∃ a c, e = .returned (.tuple #[.slice a (msgB m).length c, .int .i64 0]) ∧ OwnB w' w.heap.size (.slice a (msgB m).length c) (msgB m) ∧ Below w.heap.size w w' := by
  have h := encode_p (MsV m ve vk) w ⟨he, hk⟩
  rw [(MsV_plain hok.1.ep hok.1.nb).2 hok, MsV_mg hok.1.ep hok.1.nb] at h
  exact h.mono fun e w' hh => hh.yes
theorem cmpU (n k : Int) : compare (n * U) (k * U) = compare n k := compare_mul n k U U_pos

/-- how two whole numbers stand -/
theorem order_whole {x y : Nat} {n k : Int} (hx : fval x = some (n * U)) (hy : fval y = some (k * U)) : FloatKind.f64.format.order x y = some (compare n k) := by
  have := order_val hx hy
  rwa [cmpU] at this
/-- a mark that was written and read is that mark -/
theorem mark_back {a b : Nat} (h : goodB a b = true) : FloatKind.f64.format.order (floatOfInt .f64 (part a)) a = some .eq ∧ FloatKind.f64.format.order (floatOfInt .f64 (part b)) b = some .eq := by
  obtain ⟨h1, h2, h3, h4, h5, h6⟩ := good_parts h
  refine ⟨?_, ?_⟩
  · rw [order_whole (ofInt_val (part a) (by omega)) h5, Int.compare_eq_eq.2 rfl]
  · rw [order_whole (ofInt_val (part b) (by omega)) h6, Int.compare_eq_eq.2 rfl]
end
section
open Go.RowKit Go.Lib

theorem said_any (v : Value) (l : List Int) (w : World) (hr : RC w v l) (hby : Byt l) (hlim : l.length ≤ 140737488351232) : Calls Try.prog 22 #[v] w fun e w' => SaidR l w w' e := by
  obtain ⟨a, c, rfl, h2⟩ := hr
  have hr : RC w (.slice a l.length c) l := ⟨a, c, rfl, h2⟩
  obtain ⟨K, hK⟩ : ∃ K, (octP (some l)).1 = K := ⟨_, rfl⟩
  have hk : octP (some l) = (K, (octP (some l)).2) := Prod.ext hK rfl
  by_cases e1 : K = 1
  · exact said_1 a _ c l w hr hby hlim _ (by rw [e1] at hk; exact hk)
  by_cases e2 : K = 2
  · exact said_2 a _ c l w hr hby hlim _ (by rw [e2] at hk; exact hk)
  by_cases e3 : K = 3
  · exact said_3 a _ c l w hr hby hlim _ (by rw [e3] at hk; exact hk)
  exact said_0 a _ c l w hr hby hlim K (by simpa using e1) (by simpa using e2) (by simpa using e3) _ hk
/-- a whole message stored, shut -/
def msgTd (a v : Value) : Sem Unit := Instr.storeAt 30 a v
theorem storeMd (a v : Value) : Instr.storeAt 30 a v = msgTd a v := rfl
theorem msgTd_of {w W : World} {g : Nat} {old cs : Array Value} {t : TypeId} (h : w.heap[g]? = some (.cells old t (0, 0))) (ho : old.size = 16) (hs : cs.size = 16) (h1 : cs.all (·.oneCell') = true) (hW : w.setRow g cs = W) : (msgTd (.pointer (some ⟨g, 0, none⟩)) (.agg cs)).run Try.prog w = .ok () W := by
  subst hW
  unfold msgTd Instr.storeAt Instr.sureAddr
  simp [run_storeVar_row w g t 30 old cs h (by rw [hs]; exact Try.sizeMsg8) (by rw [ho, hs]) h1]
attribute [irreducible] msgTd
attribute [local go_sem ↓ high] loadMg storeMd
theorem setRow_onlyD (w : World) (g : Nat) (cs : Array Value) : Only (· = g) w (w.setRow g cs) := ⟨rfl, rfl, rfl, by simp, fun k _ hk => setRow_other w g k cs hk⟩
theorem row_off {w w' : World} {B g : Nat} {v : Value} {es : List En} {t : TypeId} (h : Row7 w B v es) (ho : Only (· = g) w w') (hg : Tag w g t) (ht : 44 ≠ t) : Row7 w' B v es := owns_moved h fun q hq => ho.block q (Tag.own h hq).lt ((Tag.own h hq).ne hg ht)
theorem rowk_off {w w' : World} {B g : Nat} {v : Value} {es : List Ky} {t : TypeId} (h : RowK w B v es) (ho : Only (· = g) w w') (hg : Tag w g t) (ht : 40 ≠ t) : RowK w' B v es := owns_moved h fun q hq => ho.block q (Tag.own h hq).lt ((Tag.own h hq).ne hg ht)
theorem own_one {w : World} {B : Nat} {e : TypeId} {size : Nat} {v : Value} {n : Nat} {xs : List Value} (h : w.ownsRow B e size v n xs) : v.oneCell' = true := by
  obtain ⟨a, c, rfl⟩ := owns_len h
  rfl
theorem msv_one {w : World} {B : Nat} {m : Mg} {ve vk : Value} (h1 : Row7 w B ve m.es) (h2 : RowK w B vk m.ks) : (MsV m ve vk).arr.all (·.oneCell') = true := by
  have e1 := own_one h1
  have e2 := own_one h2
  unfold MsV Ms.arr
  simp [Value.oneCell'] <;> exact ⟨e1, e2⟩
/-- what Decode has behind its reading -/
structure Dd (w Z : World) (r y1 y2 : Nat) (A : Array Value) (a : Option Addr) (n c : Nat) (k : Bool) (s : St) (m : Mg) (ve vk : Value) : Prop where
  res : Z.heap[r]? = some (.cells #[.int .i64 0, .int .i64 0, .int .i64 0, .int .i64 0, .complex .f64 0 0, .int .i64 0, .int .i64 0, .int .i64 0, .int .i64 0, .string ⟨#[]⟩, .int .i64 0, .string ⟨#[]⟩, .int .i64 0, .string ⟨#[]⟩, .slice none 0 0, .slice none 0 0] 30 (0, 0))
  own : Z.heap[y1]? = some (.cells A 30 (0, 0))
  box : Z.heap[y2]? = some (.cells #[.slice a n c, .bool k] 68 (0, 0))
  es : Row7 Z w.heap.size ve m.es
  ks : RowK Z w.heap.size vk m.ks
  bel : Below w.heap.size w Z
  left : ∃ l, l.length = n ∧ ((k = true ∧ s = some l) ∨ (k = false ∧ s = none))
theorem Dd.below {w Z Z' : World} {r y1 y2 : Nat} {A : Array Value} {a : Option Addr} {n c : Nat} {k : Bool} {s : St} {m : Mg} {ve vk : Value} (h : Dd w Z r y1 y2 A a n c k s m ve vk) (hb : Below Z.heap.size Z Z') : Dd w Z' r y1 y2 A a n c k s m ve vk :=
  ⟨hkeep h.res hb, hkeep h.own hb, hkeep h.box hb, h.es.below hb, h.ks.below hb, chainB h.bel hb, h.left⟩
/-- the end: what is answered -/
theorem Dd.fin {w Z Z' : World} {y1 y2 : Nat} {A : Array Value} {a : Option Addr} {n c : Nat} {k : Bool} {s : St} {m : Mg} {ve vk : Value} (h : Dd w Z w.heap.size y1 y2 A a n c k s m ve vk) (D : Array Value) (hZ : Z.setRow w.heap.size D = Z') : Z'.heap[w.heap.size]? = some (.cells D 30 (0, 0)) ∧ Row7 Z' w.heap.size ve m.es ∧ RowK Z' w.heap.size vk m.ks ∧ Below w.heap.size w Z' := by
  rw [← hZ]
  have ht : Tag Z w.heap.size 30 := ⟨_, _, h.res⟩
  exact ⟨setRow_heap _ _ _ _ _ _ h.res, row_off h.es (setRow_onlyD _ _ _) ht (by decide), rowk_off h.ks (setRow_onlyD _ _ _) ht (by decide), below_setRow h.bel (Nat.le_refl _) _⟩
set_option maxRecDepth 20000 in
set_option maxHeartbeats 16000000 in
theorem decoded_any (v : Value) (l : List Int) (w : World) (hr : RC w v l) (hby : Byt l) (hlim : l.length ≤ 140737488351232) : Calls Try.prog 8 #[v] w fun e w' => DecR l w w' e := by
  obtain ⟨a0, c0, rfl, _⟩ := id hr
  obtain ⟨n0, hn0⟩ : ∃ n, l.length = n := ⟨_, rfl⟩
  rw [hn0] at hr ⊢
  have HR : Hid (RC w (.slice a0 n0 c0) l ∧ l.length ≤ 140737488351232) := ⟨hr, hlim⟩
  obtain ⟨W, hW⟩ : ∃ W, w.alloc (.cells #[.int .i64 0, .int .i64 0, .int .i64 0, .int .i64 0, .complex .f64 0 0, .int .i64 0, .int .i64 0, .int .i64 0, .int .i64 0, .string ⟨#[]⟩, .int .i64 0, .string ⟨#[]⟩, .int .i64 0, .string ⟨#[]⟩, .slice none 0 0, .slice none 0 0] 30) = W := ⟨_, rfl⟩
  have bW := boxB hW
  have HW : Hid (W.heap[w.heap.size]? = some (.cells #[.int .i64 0, .int .i64 0, .int .i64 0, .int .i64 0, .complex .f64 0 0, .int .i64 0, .int .i64 0, .int .i64 0, .int .i64 0, .string ⟨#[]⟩, .int .i64 0, .string ⟨#[]⟩, .int .i64 0, .string ⟨#[]⟩, .slice none 0 0, .slice none 0 0] 30 (0, 0)) ∧ Below w.heap.size w W) := bW
  obtain ⟨m, s, hm⟩ : ∃ m s, msgF (some l) = (m, s) := ⟨_, _, rfl⟩
  have HM : Hid (msgF (some l) = (m, s)) := hm
  have hmk := msgF_marks (some l)
  rw [hm] at hmk
  have HMk : Hid ((0 ≤ m.ep ∧ m.ep ≤ 4398046511103) ∧ (0 ≤ m.nb ∧ m.nb ≤ 4398046511103)) := hmk
  have HSd : Hid (Calls Try.prog 22 #[.slice a0 n0 c0] W fun e w' => ∃ ve vk A b k, e = .returned (.tuple #[.agg A, .agg #[b, .bool k]]) ∧ Hid ((Row7 w' W.heap.size ve m.es ∧ RowK w' W.heap.size vk m.ks ∧ RI W.heap.size w' b k s) ∧ (MsV m ve vk).arr = A) ∧ Below W.heap.size W w') := (said_any _ l W (hr.below bW.2) hby hlim).mono fun e w' ⟨ve, vk, b, k, he, h1, h2, h3, hb⟩ => by
    rw [hm] at he h1 h2 h3
    exact ⟨ve, vk, _, b, k, he, ⟨⟨h1, h2, h3⟩, rfl⟩, hb⟩
  clear hr hlim hn0 hby bW hm hmk
  go_enter Try.func8, Try.ntmps8
  go_upto_region 1 with fail
  clear hW
  go_upto_region 2 with (go_at_call 22; refine HSd.out.mono ?_; rintro e w1 ⟨ve, vk, A, b, k, rfl, h1', hb1⟩; obtain ⟨h1, hA⟩ := h1'.out; have h1 : Hid (Row7 w1 W.heap.size ve m.es ∧ RowK w1 W.heap.size vk m.ks ∧ RI W.heap.size w1 b k s) := h1; obtain ⟨a, n, c, hbv⟩ := h1.out.2.2.form; subst hbv; have hone : (MsV m ve vk).arr.all (·.oneCell') = true := msv_one h1.out.1 h1.out.2.1; have hsz : (MsV m ve vk).arr.size = 16 := rfl; rw [hA] at hone hsz; obtain ⟨V1, hV1⟩ : ∃ V, w1.alloc (.cells #[.int .i64 0, .int .i64 0, .int .i64 0, .int .i64 0, .complex .f64 0 0, .int .i64 0, .int .i64 0, .int .i64 0, .int .i64 0, .string ⟨#[]⟩, .int .i64 0, .string ⟨#[]⟩, .int .i64 0, .string ⟨#[]⟩, .slice none 0 0, .slice none 0 0] 30) = V := ⟨_, rfl⟩; obtain ⟨V2, hV2⟩ : ∃ V, V1.alloc (.cells #[.slice none 0 0, .bool false] 68) = V := ⟨_, rfl⟩; have bV1 := boxB hV1; have bV2 := boxB hV2; have hUV := chainB bV1.2 bV2.2; have b12' := hkeep bV1.1 bV2.2; obtain ⟨y1, hy1⟩ : ∃ y, w1.heap.size = y := ⟨_, rfl⟩; obtain ⟨y2, hy2⟩ : ∃ y, V1.heap.size = y := ⟨_, rfl⟩; have hsz2 : y2 = y1 + 1 := (by rw [← hy2, ← hV1, ← hy1]; simp); rw [hy2] at bV2; rw [hy1] at b12'; obtain ⟨V3, hV3⟩ : ∃ V, V2.setRow y1 A = V := ⟨_, rfl⟩; have nt := msgTd_of b12' rfl hsz hone hV3; have hO3 : Only (· = y1) V2 V3 := (by rw [← hV3]; exact setRow_onlyD _ _ _); have hE3 : V3.heap[y1]? = some (.cells A 30 (0, 0)) := (by rw [← hV3]; exact setRow_heap _ _ _ _ _ _ b12'); have hN3 : V3.heap[y2]? = some (.cells #[.slice none 0 0, .bool false] 68 (0, 0)) := (hO3.block y2 (Array.getElem?_eq_some_iff.1 bV2.1).1 (by omega)).trans bV2.1; have m0 : V3.cell? ⟨y2, 0, none⟩ = some (.slice none 0 0) := (by rw [cell_of hN3]; rfl); have m1 : V3.cell? ⟨y2, 1, none⟩ = some (.bool false) := (by rw [cell_of hN3]; rfl); have mg0 := free_of hN3 0; have mg1 := free_of hN3 1; obtain ⟨V4, hV4⟩ : ∃ V, (V3.setCell ⟨y2, 0, none⟩ (.slice a n c)).setCell ⟨y2, 1, none⟩ (.bool k) = V := ⟨_, rfl⟩; have HA : Hid ((MsV m ve vk).arr = A ∧ A.size = 16 ∧ A.all (·.oneCell') = true) := ⟨hA, hsz, hone⟩; have hO4 : Only (· = y2) V3 V4 := (by rw [← hV4]; exact only2 _ _ _ _); have t2 : Tag V2 y1 30 := ⟨_, _, b12'⟩; have t3 : Tag V3 y2 68 := ⟨_, _, hN3⟩; have hwW := HW.out.2.size; have hlt1 : w.heap.size < w1.heap.size := (Nat.lt_of_lt_of_le (Array.getElem?_eq_some_iff.1 HW.out.1).1 hb1.size); have hB2 : Below w.heap.size w V2 := chainB (chainB HW.out.2 hb1) hUV; have D4 : Hid (Dd w V4 w.heap.size y1 y2 A a n c k s m ve vk) := ⟨(hO4.block _ (Array.getElem?_eq_some_iff.1 ((hO3.block _ (Array.getElem?_eq_some_iff.1 (hkeep (hkeep HW.out.1 hb1) hUV)).1 (by omega)).trans (hkeep (hkeep HW.out.1 hb1) hUV))).1 (by omega)).trans ((hO3.block _ (Array.getElem?_eq_some_iff.1 (hkeep (hkeep HW.out.1 hb1) hUV)).1 (by omega)).trans (hkeep (hkeep HW.out.1 hb1) hUV)), (hO4.block _ (Array.getElem?_eq_some_iff.1 hE3).1 (by omega)).trans hE3, (by rw [← hV4]; exact set2 hN3), owns_le (row_off (row_off (h1.out.1.below hUV) hO3 t2 (by decide)) hO4 t3 (by decide)) hwW, owns_le (rowk_off (rowk_off (h1.out.2.1.below hUV) hO3 t2 (by decide)) hO4 t3 (by decide)) hwW, below_on1 (below_on1 hB2 hO3 (by omega)) hO4 (by omega), (by obtain ⟨l', ⟨a', c', e', -⟩, -, -, hs⟩ := h1.out.2.2; injection e' with e1 e2; exact ⟨l', e2.symm, hs⟩)⟩; clear h1 h1' hb1 hA hone hsz bV1 bV2 hUV b12' hsz2 hO3 hE3 hN3 hO4 t2 t3 hwW hlt1 hB2)
  clear hV1 hV2 hV3 hV4 hy1 hy2 nt m0 m1 mg0 mg1
  have x0 : V4.cell? ⟨y2, 0, none⟩ = some (.slice a n c) := by rw [cell_of D4.out.box]; rfl
  have x1 : V4.cell? ⟨y2, 1, none⟩ = some (.bool k) := by rw [cell_of D4.out.box]; rfl
  go_cut [21] from 13 to 20 (fun x wx => ∃ B, x = .bool B ∧ Hid (B = true ↔ s ≠ some []) ∧ V4 = wx)
  case first =>
    obtain ⟨l', hl', hs⟩ := D4.out.left
    rcases hs with ⟨hkk, hs⟩ | ⟨hkk, hs⟩
    · subst hkk
      by_cases hm : n = 0
      · have hl0 : l' = [] := List.length_eq_zero_iff.1 (by omega)
        have HS0 : Hid (s = some []) := by show _ = _; rw [hs, hl0]
        clear hs hl' hl0
        subst hm
        go_wp2_with fail
        go_meet
        exact ⟨false, rfl, ⟨fun h => (by cases h), fun h => absurd HS0.out h⟩, rfl⟩
      · have hmi : (0 : Int) < (n : Int) := by omega
        have hmn : 0 < n := by omega
        have HS0 : Hid (s ≠ some []) := fun h => by
          rw [hs] at h
          injection h with h
          rw [h] at hl'
          exact hm hl'.symm
        clear hs hm hl'
        go_wp2_with fail
        go_meet
        exact ⟨true, rfl, ⟨fun _ => HS0.out, fun _ => rfl⟩, rfl⟩
    · subst hkk
      have HS0 : Hid (s ≠ some []) := fun h => by rw [hs] at h; cases h
      clear hs hl'
      go_wp2_with fail
      go_meet
      exact ⟨true, rfl, ⟨fun _ => HS0.out, fun _ => rfl⟩, rfl⟩
  case rest =>
    obtain ⟨B, rfl, HB, rfl⟩ := hcut
    clear x0 x1
    cases B with
    | true =>
      obtain ⟨W8, hW8⟩ : ∃ W, V4.setRow w.heap.size #[.int .i64 0, .int .i64 0, .int .i64 0, .int .i64 0, .complex .f64 0 0, .int .i64 0, .int .i64 0, .int .i64 0, .int .i64 0, .string ⟨#[]⟩, .int .i64 0, .string ⟨#[]⟩, .int .i64 0, .string ⟨#[]⟩, .slice none 0 0, .slice none 0 0] = W := ⟨_, rfl⟩
      have nt2 := msgTd_of D4.out.res rfl rfl (by simp [Value.oneCell']) hW8
      have HF : Hid (W8.heap[w.heap.size]? = some (.cells #[.int .i64 0, .int .i64 0, .int .i64 0, .int .i64 0, .complex .f64 0 0, .int .i64 0, .int .i64 0, .int .i64 0, .int .i64 0, .string ⟨#[]⟩, .int .i64 0, .string ⟨#[]⟩, .int .i64 0, .string ⟨#[]⟩, .slice none 0 0, .slice none 0 0] 30 (0, 0)) ∧ Below w.heap.size w W8) := by have h := D4.out.fin _ hW8; exact ⟨h.1, h.2.2.2⟩
      clear hW8
      go_wp2
      refine bodyPost_ret (ret_msg2 rfl _ _ w.heap.size rfl HF.out.1 rfl) rfl ?_
      exact decd_no HM.out (.inl (HB.out.1 (by trivial))) rfl HF.out.2
    | false =>
      have HS : Hid (s = some []) := Classical.byContradiction fun h => by have := HB.out.2 h; cases this
      have HEn : Hid (Calls Try.prog 17 #[.agg A] V4 fun e w' => ∃ aC nC cC E, e = .returned (.tuple #[.slice aC nC cC, .int .i64 E]) ∧ Hid ((msgOk m ∧ E = 0 ∧ RB w' (.slice aC nC cC) (msgB m)) ∨ (¬ msgOk m ∧ E = 50)) ∧ Below V4.heap.size V4 w') := by
        have hp := MsV_mgF (ve := ve) (vk := vk) HMk.out.1 HMk.out.2
        have h := encode_d (MsV m ve vk) V4 ⟨owns_le D4.out.es (Nat.zero_le _), owns_le D4.out.ks (Nat.zero_le _)⟩
        rw [HA.out.1, hp.1] at h
        refine h.mono fun e w' hh => ?_
        rcases hh with ⟨h0, v, he, ho, hb⟩ | ⟨h0, he, hb⟩
        · obtain ⟨aC, cC, rfl⟩ := owns_len ho
          exact ⟨aC, _, cC, 0, he, .inl ⟨hp.2.1 h0, rfl, ho.rb⟩, hb⟩
        · exact ⟨_, _, _, _, he, .inr ⟨fun h => (by rw [hp.2.2 h] at h0; cases h0), rfl⟩, hb⟩
      have nl := msgS_of D4.out.own HA.out.2.1
      go_upto_region 5 with (go_at_call 17; refine HEn.out.mono ?_; rintro e w5 ⟨aC, nC, cC, E, rfl, hP5, hb5⟩)
      have D5 : Hid (Dd w w5 w.heap.size y1 y2 A a n c k s m ve vk) := D4.out.below hb5
      clear nl HEn hb5 D4 HB
      go_cut [35] from 28 to 34 (fun x wx => ∃ B, x = .bool B ∧ Hid (B = true ↔ ¬ (msgOk m ∧ l = msgB m)) ∧ Below w5.heap.size w5 wx)
      case first =>
        rcases hP5.out with ⟨hp, hE, hrb⟩ | ⟨hp, hE⟩
        · subst hE
          obtain ⟨D, hD⟩ : ∃ D, decide (l = msgB m) = D := ⟨_, rfl⟩
          have HSm : Hid (Calls Try.prog 23 #[.slice a0 n0 c0, .slice aC nC cC] w5 fun e w' => e = .returned (.bool D) ∧ Below w5.heap.size w5 w') := by
            have := same6_any (.slice a0 n0 c0) (.slice aC nC cC) l (msgB m) w5 (HR.out.1.below D5.out.bel).rb hrb HR.out.2 (Nat.le_trans (msgB_len hp) (by omega))
            rw [hD] at this
            exact this
          have HD : Hid (D = true ↔ l = msgB m) := by rw [← hD]; exact decide_eq_true_iff
          have HPp : Hid (msgOk m) := hp
          clear hD hp hrb
          go_wp2_with (go_at_call 23; refine HSm.out.mono ?_; rintro e w10 ⟨rfl, hb10⟩)
          go_meet
          refine ⟨!D, rfl, ⟨fun h hh => ?_, fun h => ?_⟩, hb10⟩
          · rw [HD.out.2 hh.2] at h; cases h
          · cases D with
            | false => rfl
            | true => exact absurd ⟨HPp.out, HD.out.1 rfl⟩ h
        · subst hE
          have HPp : Hid (¬ msgOk m) := hp
          clear hp
          go_wp2_with fail
          go_meet
          exact ⟨true, rfl, ⟨fun _ h => HPp.out h.1, fun _ => rfl⟩, Below.refl _ _⟩
      case rest =>
        obtain ⟨B, rfl, HBq, hbc⟩ := hcut
        have D6 : Hid (Dd w wc w.heap.size y1 y2 A a n c k s m ve vk) := D5.out.below hbc
        clear hbc D5
        cases B with
        | true =>
          obtain ⟨W8, hW8⟩ : ∃ W, wc.setRow w.heap.size #[.int .i64 0, .int .i64 0, .int .i64 0, .int .i64 0, .complex .f64 0 0, .int .i64 0, .int .i64 0, .int .i64 0, .int .i64 0, .string ⟨#[]⟩, .int .i64 0, .string ⟨#[]⟩, .int .i64 0, .string ⟨#[]⟩, .slice none 0 0, .slice none 0 0] = W := ⟨_, rfl⟩
          have nt2 := msgTd_of D6.out.res rfl rfl (by simp [Value.oneCell']) hW8
          have HF : Hid (W8.heap[w.heap.size]? = some (.cells #[.int .i64 0, .int .i64 0, .int .i64 0, .int .i64 0, .complex .f64 0 0, .int .i64 0, .int .i64 0, .int .i64 0, .int .i64 0, .string ⟨#[]⟩, .int .i64 0, .string ⟨#[]⟩, .int .i64 0, .string ⟨#[]⟩, .slice none 0 0, .slice none 0 0] 30 (0, 0)) ∧ Below w.heap.size w W8) := by have h := D6.out.fin _ hW8; exact ⟨h.1, h.2.2.2⟩
          clear hW8
          go_wp2
          refine bodyPost_ret (ret_msg2 rfl _ _ w.heap.size rfl HF.out.1 rfl) rfl ?_
          refine decd_no HM.out ?_ rfl HF.out.2
          have hq := HBq.out.1 (by trivial)
          by_cases q2 : msgOk m
          · exact .inr (.inr fun q3 => hq ⟨q2, q3⟩)
          · exact .inr (.inl q2)
        | false =>
          have hq : msgOk m ∧ l = msgB m := Classical.byContradiction fun h => by have := HBq.out.2 h; cases this
          have HQ : Hid (msgOk m ∧ l = msgB m) := hq
          obtain ⟨W8, hW8⟩ : ∃ W, wc.setRow w.heap.size A = W := ⟨_, rfl⟩
          have nl2 := msgS_of D6.out.own HA.out.2.1
          have nt2 := msgTd_of D6.out.res rfl HA.out.2.1 HA.out.2.2 hW8
          have HF : Hid (W8.heap[w.heap.size]? = some (.cells A 30 (0, 0)) ∧ Row7 W8 w.heap.size ve m.es ∧ RowK W8 w.heap.size vk m.ks ∧ Below w.heap.size w W8) := D6.out.fin _ hW8
          clear hW8 hq
          go_wp2
          refine bodyPost_ret (ret_msg2 rfl _ _ w.heap.size rfl HF.out.1 HA.out.2.1) rfl ?_
          exact .inl ⟨m, ve, vk, HQ.out.1, HQ.out.2.symm, (by rw [HA.out.1]; rfl), HF.out.2.1, HF.out.2.2.1, HF.out.2.2.2⟩
end
section
open Go.ChangeShapes Go.WideShapes Go.ChangeAt Go.RowKit Go.Joins

theorem Try.cellsU : Try.prog.cellsOf 5 = 1 := by kernel_rfl
theorem Try.cellsWord : Try.prog.cellsOf 3 = 1 := by kernel_rfl
theorem Try.cellsText : Try.prog.cellsOf 9 = 1 := by kernel_rfl
theorem Try.cellsYes : Try.prog.cellsOf 4 = 1 := by kernel_rfl
theorem Try.cellsOpn : Try.prog.cellsOf 26 = 7 := by kernel_rfl
theorem Try.cellsKey : Try.prog.cellsOf 40 = 2 := by kernel_rfl
theorem Try.cellsNode : Try.prog.cellsOf 42 = 4 := by kernel_rfl
theorem Try.cellsEnt : Try.prog.cellsOf 44 = 7 := by kernel_rfl
theorem Try.cellsSlE : Try.prog.cellsOf 27 = 1 := by kernel_rfl
theorem Try.cellsSlK : Try.prog.cellsOf 28 = 1 := by kernel_rfl
theorem Try.cellsMm : Try.prog.cellsOf 54 = 17 := by kernel_rfl
theorem Try.bytesU : Try.prog.bytesOf 5 = 1 := by kernel_rfl
theorem Try.bytesEnt : Try.prog.bytesOf 44 = 72 := by kernel_rfl
theorem Try.bytesKey : Try.prog.bytesOf 40 = 24 := by kernel_rfl
theorem two {α : Type} {l : List α} (h : l.length = 2) : ∃ c0 c1, l = [c0, c1] := by
  match l, h with
  | [c0, c1], _ => exact ⟨c0, c1, rfl⟩
theorem three {α : Type} {l : List α} (h : l.length = 3) : ∃ c0 c1 c2, l = [c0, c1, c2] := by
  match l, h with
  | [c0, c1, c2], _ => exact ⟨c0, c1, c2, rfl⟩
theorem four {α : Type} {l : List α} (h : l.length = 4) : ∃ c0 c1 c2 c3, l = [c0, c1, c2, c3] := by
  match l, h with
  | [c0, c1, c2, c3], _ => exact ⟨c0, c1, c2, c3, rfl⟩
theorem seven {α : Type} {l : List α} (h : l.length = 7) : ∃ c0 c1 c2 c3 c4 c5 c6, l = [c0, c1, c2, c3, c4, c5, c6] := by
  match l, h with
  | [c0, c1, c2, c3, c4, c5, c6], _ => exact ⟨c0, c1, c2, c3, c4, c5, c6, rfl⟩
theorem eleven {α : Type} {l : List α} (h : l.length = 11) : ∃ c0 c1 c2 c3 c4 c5 c6 c7 c8 c9 c10, l = [c0, c1, c2, c3, c4, c5, c6, c7, c8, c9, c10] := by
  match l, h with
  | [c0, c1, c2, c3, c4, c5, c6, c7, c8, c9, c10], _ => exact ⟨c0, c1, c2, c3, c4, c5, c6, c7, c8, c9, c10, rfl⟩
theorem seventeen {α : Type} {l : List α} (h : l.length = 17) : ∃ c0 c1 c2 c3 c4 c5 c6 c7 c8 c9 c10 c11 c12 c13 c14 c15 c16, l = [c0, c1, c2, c3, c4, c5, c6, c7, c8, c9, c10, c11, c12, c13, c14, c15, c16] := by
  match l, h with
  | [c0, c1, c2, c3, c4, c5, c6, c7, c8, c9, c10, c11, c12, c13, c14, c15, c16], _ => exact ⟨c0, c1, c2, c3, c4, c5, c6, c7, c8, c9, c10, c11, c12, c13, c14, c15, c16, rfl⟩
theorem weightsAll_mem {H : Type} {P : Program} {e : TypeId} {d : DataW H} {n : Nat} : ∀ {ds : List (DataW H)}, d ∈ ds → n ∈ d.weights P e → n ∈ DataW.weightsAll P e ds
  | [], h, _ => by cases h
  | d0 :: ds, h, hn => by
    simp only [DataW.weightsAll, List.mem_append]
    rcases List.mem_cons.1 h with rfl | h
    · exact .inl hn
    · exact .inr (weightsAll_mem h hn)
/-- what a slice weighs -/
theorem weights_slice {H : Type} {P : Program} {t e : TypeId} {elems spare : List (DataW H)} (hu : P.underlying t = some (.slice e)) (h : ∀ n ∈ (DataW.slice elems spare).weights P t, n ≤ reachBytes) : elems.length * P.bytesOf e ≤ reachBytes := by
  simp only [DataW.weights, hu] at h
  exact Nat.le_trans (Nat.mul_le_mul_right _ (Nat.le_add_right _ _)) (h _ (List.mem_cons_self ..))

section
variable {H : Type} {enc : TypeId × Value → H} {W : World}
theorem op_of {fuel : Nat} {cs : List Value} {x : DataW H × List MemPlace} (h : DataW.trod enc Try.prog W 0 (fun _ => true) true fuel 26 cs = some x) : ∃ p : Opn, cs = p.arr.toList := by
  obtain ⟨xs, n, _, rfl, hl, hlen, hf⟩ := DataW.trod_struct Try.underlying26 h
  rw [Try.cellsOpn] at hl
  obtain ⟨c0, c1, c2, c3, c4, c5, c6, rfl⟩ := seven hl
  obtain ⟨y0, y1, y2, y3, y4, y5, y6, rfl⟩ := seven (l := xs) (by simpa using hlen)
  have h0 : DataW.trod enc Try.prog W 0 (fun _ => true) true n 3 (([c0, c1, c2, c3, c4, c5, c6].drop 0).take (Try.prog.cellsOf 3)) = some y0 := hf 0 _ rfl
  have h1 : DataW.trod enc Try.prog W 0 (fun _ => true) true n 3 (([c0, c1, c2, c3, c4, c5, c6].drop 1).take (Try.prog.cellsOf 3)) = some y1 := hf 1 _ rfl
  have h2 : DataW.trod enc Try.prog W 0 (fun _ => true) true n 9 (([c0, c1, c2, c3, c4, c5, c6].drop 2).take (Try.prog.cellsOf 9)) = some y2 := hf 2 _ rfl
  have h3 : DataW.trod enc Try.prog W 0 (fun _ => true) true n 3 (([c0, c1, c2, c3, c4, c5, c6].drop 3).take (Try.prog.cellsOf 3)) = some y3 := hf 3 _ rfl
  have h4 : DataW.trod enc Try.prog W 0 (fun _ => true) true n 9 (([c0, c1, c2, c3, c4, c5, c6].drop 4).take (Try.prog.cellsOf 9)) = some y4 := hf 4 _ rfl
  have h5 : DataW.trod enc Try.prog W 0 (fun _ => true) true n 3 (([c0, c1, c2, c3, c4, c5, c6].drop 5).take (Try.prog.cellsOf 3)) = some y5 := hf 5 _ rfl
  have h6 : DataW.trod enc Try.prog W 0 (fun _ => true) true n 9 (([c0, c1, c2, c3, c4, c5, c6].drop 6).take (Try.prog.cellsOf 9)) = some y6 := hf 6 _ rfl
  rw [Try.cellsWord] at h0 h1 h3 h5
  rw [Try.cellsText] at h2 h4 h6
  obtain ⟨p0, e0, _, _⟩ := DataW.trod_int Try.underlying3 h0
  obtain ⟨p1, e1, _, _⟩ := DataW.trod_int Try.underlying3 h1
  obtain ⟨p2, e2, _, _⟩ := DataW.trod_string Try.underlying9 h2
  obtain ⟨p3, e3, _, _⟩ := DataW.trod_int Try.underlying3 h3
  obtain ⟨p4, e4, _, _⟩ := DataW.trod_string Try.underlying9 h4
  obtain ⟨p5, e5, _, _⟩ := DataW.trod_int Try.underlying3 h5
  obtain ⟨p6, e6, _, _⟩ := DataW.trod_string Try.underlying9 h6
  simp at e0 e1 e2 e3 e4 e5 e6
  subst e0 e1 e2 e3 e4 e5 e6
  exact ⟨⟨p0, p1, p2, p3, p4, p5, p6⟩, rfl⟩
theorem ky_of {fuel : Nat} {cs : List Value} {x : DataW H × List MemPlace} (h : DataW.trod enc Try.prog W 0 (fun _ => true) true fuel 40 cs = some x) : ∃ p : Ky, cs = [.int .i64 p.d, .string p.nm] := by
  obtain ⟨xs, n, _, rfl, hl, hlen, hf⟩ := DataW.trod_struct Try.underlying40 h
  rw [Try.cellsKey] at hl
  obtain ⟨c0, c1, rfl⟩ := two hl
  obtain ⟨y0, y1, rfl⟩ := two (l := xs) (by simpa using hlen)
  have h0 : DataW.trod enc Try.prog W 0 (fun _ => true) true n 3 (([c0, c1].drop 0).take (Try.prog.cellsOf 3)) = some y0 := hf 0 _ rfl
  have h1 : DataW.trod enc Try.prog W 0 (fun _ => true) true n 9 (([c0, c1].drop 1).take (Try.prog.cellsOf 9)) = some y1 := hf 1 _ rfl
  rw [Try.cellsWord] at h0
  rw [Try.cellsText] at h1
  obtain ⟨p0, e0, _, _⟩ := DataW.trod_int Try.underlying3 h0
  obtain ⟨p1, e1, _, _⟩ := DataW.trod_string Try.underlying9 h1
  simp at e0 e1
  subst e0 e1
  exact ⟨⟨p0, p1⟩, rfl⟩
theorem nd_of {fuel : Nat} {cs : List Value} {x : DataW H × List MemPlace} (h : DataW.trod enc Try.prog W 0 (fun _ => true) true fuel 42 cs = some x) : ∃ (i k m : Int) (t : ByteArray), cs = [.int .i64 i, .int .i64 k, .int .i64 m, .string t] := by
  obtain ⟨xs, n, _, rfl, hl, hlen, hf⟩ := DataW.trod_struct Try.underlying42 h
  rw [Try.cellsNode] at hl
  obtain ⟨c0, c1, c2, c3, rfl⟩ := four hl
  obtain ⟨y0, y1, y2, y3, rfl⟩ := four (l := xs) (by simpa using hlen)
  have h0 : DataW.trod enc Try.prog W 0 (fun _ => true) true n 3 (([c0, c1, c2, c3].drop 0).take (Try.prog.cellsOf 3)) = some y0 := hf 0 _ rfl
  have h1 : DataW.trod enc Try.prog W 0 (fun _ => true) true n 3 (([c0, c1, c2, c3].drop 1).take (Try.prog.cellsOf 3)) = some y1 := hf 1 _ rfl
  have h2 : DataW.trod enc Try.prog W 0 (fun _ => true) true n 3 (([c0, c1, c2, c3].drop 2).take (Try.prog.cellsOf 3)) = some y2 := hf 2 _ rfl
  have h3 : DataW.trod enc Try.prog W 0 (fun _ => true) true n 9 (([c0, c1, c2, c3].drop 3).take (Try.prog.cellsOf 9)) = some y3 := hf 3 _ rfl
  rw [Try.cellsWord] at h0 h1 h2
  rw [Try.cellsText] at h3
  obtain ⟨p0, e0, _, _⟩ := DataW.trod_int Try.underlying3 h0
  obtain ⟨p1, e1, _, _⟩ := DataW.trod_int Try.underlying3 h1
  obtain ⟨p2, e2, _, _⟩ := DataW.trod_int Try.underlying3 h2
  obtain ⟨p3, e3, _, _⟩ := DataW.trod_string Try.underlying9 h3
  simp at e0 e1 e2 e3
  subst e0 e1 e2 e3
  exact ⟨p0, p1, p2, p3, rfl⟩
theorem en_of {fuel : Nat} {cs : List Value} {x : DataW H × List MemPlace} (h : DataW.trod enc Try.prog W 0 (fun _ => true) true fuel 44 cs = some x) : ∃ p : En, cs = p.vals := by
  obtain ⟨xs, n, _, rfl, hl, hlen, hf⟩ := DataW.trod_struct Try.underlying44 h
  rw [Try.cellsEnt] at hl
  obtain ⟨c0, c1, c2, c3, c4, c5, c6, rfl⟩ := seven hl
  obtain ⟨y0, y1, y2, rfl⟩ := three (l := xs) (by simpa using hlen)
  have h0 : DataW.trod enc Try.prog W 0 (fun _ => true) true n 40 (([c0, c1, c2, c3, c4, c5, c6].drop 0).take (Try.prog.cellsOf 40)) = some y0 := hf 0 _ rfl
  have h1 : DataW.trod enc Try.prog W 0 (fun _ => true) true n 4 (([c0, c1, c2, c3, c4, c5, c6].drop 2).take (Try.prog.cellsOf 4)) = some y1 := hf 1 _ rfl
  have h2 : DataW.trod enc Try.prog W 0 (fun _ => true) true n 42 (([c0, c1, c2, c3, c4, c5, c6].drop 3).take (Try.prog.cellsOf 42)) = some y2 := hf 2 _ rfl
  rw [Try.cellsKey] at h0
  rw [Try.cellsYes] at h1
  rw [Try.cellsNode] at h2
  obtain ⟨p0, e0⟩ := ky_of h0
  obtain ⟨p1, e1, _⟩ := DataW.trod_bool Try.underlying4 h1
  obtain ⟨i, k, m, t, e2⟩ := nd_of h2
  simp at e0 e1 e2
  obtain ⟨rfl, rfl⟩ := e0
  subst e1
  obtain ⟨rfl, rfl, rfl, rfl⟩ := e2
  exact ⟨⟨p0.d, p0.nm, p1, i, k, m, t⟩, rfl⟩
end
end
end Go.Proofs.Ytekonakanieeaaa
