/- The contracts of package name's Split, Target and Parent. -/
import Derived.Test.YtppbbddlbfgpfaaJWUps05
import Derived.Test.YtppbbddlbfgpfaaJWUps04
import Derived.Test.YtppbbddlbfgpfaaJWUps01
namespace Go.Proofs.Ytppbbddlbfgpfaa
section
open Go.RowKit

theorem root_pos {s : ByteArray} (h : rootB s = true) : 0 < s.size := by
  unfold rootB at h; rw [Bool.and_eq_true] at h; exact of_decide_eq_true h.1

theorem split_any (s : ByteArray) (w : World) :
    Calls Try.prog 9 #[.string s] w fun e w' => ∃ v, e = .returned (.tuple #[v, .bool (cutD s (rootB s)), .int .i64 (cutE s (rootB s))]) ∧ Own w' w.heap.size v (cutL s (rootB s)) ∧ Below w.heap.size w w' := by
  go_enter Try.func9, Try.ntmps9
  go_wp2_with (first
    | (go_at_call 27; refine (rooted_any _ _).mono ?_; rintro e w' ⟨rfl, rfl⟩)
    | (go_at_call 26; refine (cut_any _ _ _ root_pos).mono ?_; rintro e w1 ⟨v, rfl, hown, hb⟩))
  go_ret3
  exact ⟨_, rfl, hown, hb⟩

def fullB (s : ByteArray) : Bool := !s.toList.isEmpty
def tgtW (s : ByteArray) : Bool := decide (cutE s (fullB s) = 0) && rootB s
theorem full_iff (s : ByteArray) : fullB s = decide (0 < s.size) := by
  have h := toList_size s
  unfold fullB
  cases hl : s.toList with
  | nil => rw [hl] at h; simp at h; simp [← h]
  | cons a l => rw [hl] at h; simp at h; simp [← h]
theorem full_pos {s : ByteArray} (h : fullB s = true) : 0 < s.size := by rw [full_iff] at h; exact of_decide_eq_true h

theorem results_tmp4 {fn : Func} {t u v x : Tmp} (h : fn.results = #[.tmp t, .tmp u, .tmp v, .tmp x]) (tmps : Array Value) (P : Program) (w : World) :
    (results fn tmps).run P w = .ok (.tuple #[tmps.getD t undef, tmps.getD u undef, tmps.getD v undef, tmps.getD x undef]) w := by
  simp [results, h]

theorem target_any (s : ByteArray) (w : World) :
    Calls Try.prog 20 #[.string s] w fun e w' => ∃ v, e = .returned (.tuple #[v, .bool (tgtW s), .bool (cutD s (fullB s)), .int .i64 (cutE s (fullB s))]) ∧ Own w' w.heap.size v (cutL s (fullB s)) ∧ Below w.heap.size w w' := by
  have hf : (!s.toList.isEmpty) = fullB s := rfl
  have HT : Hid (tgtW s = (decide (cutE s (fullB s) = 0) && rootB s)) := (rfl : tgtW s = _)
  obtain ⟨E, hE⟩ : ∃ E, cutE s (fullB s) = E := ⟨_, rfl⟩
  have HI : Hid (cutE s (fullB s) = E) := hE
  clear hE
  go_enter Try.func20, Try.ntmps20
  by_cases h0 : E = 0
  · go_wp2_with (first
      | (go_at_call 27; refine (rooted_any _ _).mono ?_; rintro e w' ⟨rfl, rfl⟩)
      | (go_at_call 26; refine (cut_any _ (fullB s) _ full_pos).mono ?_; rintro e w1 ⟨v, rfl, hown, hb⟩; rw [HI.out, h0]))
    (try simp only [Exit.inBlock, Exit.then]); refine bodyPost_ret (results_tmp4 rfl _ _ _) rfl ?_
    rw [HT.out, HI.out, h0]
    exact ⟨_, rfl, hown, hb⟩
  · go_wp2_with (first
      | (go_at_call 26; refine (cut_any _ (fullB s) _ full_pos).mono ?_; rintro e w1 ⟨v, rfl, hown, hb⟩; rw [HI.out]))
    (try simp only [Exit.inBlock, Exit.then]); refine bodyPost_ret (results_tmp4 rfl _ _ _) rfl ?_
    rw [HT.out, HI.out, decide_eq_false h0]
    exact ⟨_, rfl, hown, hb⟩

theorem pcs_pos (s : ByteArray) (i : Nat) (hi : i ≤ s.size + 1) : ∀ x ∈ pcs s i, 0 < x.size := by
  induction i with
  | zero => intro x hx; cases hx
  | succ i ih =>
    intro x hx
    simp only [pcs] at hx
    split at hx
    · rename_i h
      rcases List.mem_append.1 hx with hx | hx
      · exact ih (by omega) x hx
      · obtain rfl := List.mem_singleton.1 hx
        rw [ByteArray.size_extract]; omega
    · exact ih (by omega) x hx
theorem last_zero (s : ByteArray) : (lastT (pieces s)).size = 0 ↔ pieces s = [] := by
  constructor
  · intro h
    cases hp : pieces s with
    | nil => rfl
    | cons a l =>
      have hg := lastT_get (l := pieces s) (by rw [hp]; simp)
      have := pcs_pos s (s.size + 1) (Nat.le_refl _) _ (List.mem_of_getElem? hg)
      omega
  · intro h; rw [h]; rfl

theorem Own.pop {w : World} {base : Nat} {a : Option Addr} {l : List ByteArray} {cap : Nat} (h : Own w base (.slice a l.length cap) l) (hl : l ≠ []) : Own w base (.slice a (l.length - 1) cap) l.dropLast := by
  obtain ⟨m, x, rfl⟩ : ∃ m x, l = m ++ [x] := ⟨l.dropLast, l.getLast hl, (List.dropLast_concat_getLast hl).symm⟩
  unfold Own at h ⊢
  rw [List.dropLast_concat]
  rw [List.length_append, List.map_append] at h
  rw [List.length_append]
  rcases h.2 with ⟨_, h2⟩ | ⟨g, cap', cur, hv, r⟩
  · simp at h2
  · cases hv
    exact ownsRow_pop (last := [Value.string x]) (by simp) h
theorem Own.lim {w : World} {base : Nat} {a : Option Addr} {l : List ByteArray} {n cap : Nat} (h : Own w base (.slice a n cap) l) : l.length ≤ cap := by
  rcases h.2 with ⟨_, h2⟩ | ⟨g, cap', cur, hv, _, _, hn, _⟩
  · omega
  · cases hv; exact hn
end
section
open Go.RowKit

structure Nd where
  id : Int
  kind : Int
  mode : Int
  tg : ByteArray
deriving DecidableEq
def En.nd (e : En) : Nd := ⟨e.id, e.kind, e.mode, e.tg⟩
def Nd.vals (n : Nd) : List Value := [.int .i64 n.id, .int .i64 n.kind, .int .i64 n.mode, .string n.tg]
def Nd.agg (n : Nd) : Value := .agg #[.int .i64 n.id, .int .i64 n.kind, .int .i64 n.mode, .string n.tg]
def zeroNd : Nd := ⟨0, 0, 0, nob⟩
def rootN : Nd := ⟨1, 1, 0, nob⟩
def zeroKy : Ky := ⟨0, nob⟩
/-- what a walk comes to -/
structure Ou where
  need : Bool
  key : Ky
  err : Int
  node : Nd
  used : List Ky
/-- where a walk is: the last of the way is where it stands -/
structure Ws where
  way : List Nd
  used : List Ky
  dir : Bool
def Ws.here (s : Ws) : Nd := s.way.getLast?.getD rootN
def Ws.inD (s : Ws) : Bool := decide (s.here.kind = 1)
def Ws.up (s : Ws) : Ws := ⟨if 1 < s.way.length then s.way.dropLast else s.way, s.used, s.dir⟩
def Ws.fail (s : Ws) (e : Int) : Ou := ⟨false, zeroKy, e, zeroNd, s.used⟩
def Ws.use (s : Ws) (k : Ky) : Ws := ⟨s.way, s.used ++ [k], s.dir⟩
def Ws.go (s : Ws) (n : Nd) : Ws := ⟨s.way ++ [n], s.used, s.dir⟩
def Ws.met (s : Ws) (tg : ByteArray) (last : Bool) : Ws := ⟨if tgtW tg then [rootN] else s.way, s.used, if last then s.dir || cutD tg (fullB tg) else s.dir⟩
def dot1 : ByteArray := ⟨#[46]⟩
def dot2 : ByteArray := ⟨#[46, 46]⟩
/-- is a node a link that is met? -/
def meetsB (fol : Bool) (s : Ws) (n : Nd) (rest : List ByteArray) : Bool := decide (n.kind = 3) && (decide (0 < rest.length) || s.dir || fol)
/-- the end of all components -/
def Ws.fin (s : Ws) : Ou := if s.dir && !s.inD then s.fail 42 else ⟨false, zeroKy, 0, s.here, s.used⟩
/-- components, one after the other; m: what follows where a link is met -/
def goI (kn : Ky → Option En) (fol : Bool) (m : ByteArray → List ByteArray → Ws → Ou) : List ByteArray → Ws → Ou
  | [], s => s.fin
  | x :: rest, s =>
    if s.inD = false then s.fail 42
    else if x = dot1 then goI kn fol m rest s
    else if x = dot2 then goI kn fol m rest s.up
    else match kn ⟨s.here.id, x⟩ with
      | none => ⟨true, ⟨s.here.id, x⟩, 0, zeroNd, s.used⟩
      | some e =>
        if e.neg then (s.use ⟨s.here.id, x⟩).fail 40
        else if meetsB fol s e.nd rest then m e.tg rest (s.use ⟨s.here.id, x⟩)
        else goI kn fol m rest ((s.use ⟨s.here.id, x⟩).go e.nd)
/-- a link is met with l links left -/
def metW (g : List ByteArray → Ws → Ou) (tg : ByteArray) (rest : List ByteArray) (s : Ws) : Ou :=
  if cutE tg (fullB tg) = 0 then g (cutL tg (fullB tg) ++ rest) (s.met tg (decide (rest.length = 0))) else s.fail (cutE tg (fullB tg))
/-- the walk with so many links left -/
def goW (kn : Ky → Option En) (fol : Bool) : Nat → List ByteArray → Ws → Ou
  | 0 => goI kn fol fun _ _ s => s.fail 49
  | l + 1 => goI kn fol (metW (goW kn fol l))
def metL (kn : Ky → Option En) (fol : Bool) : Nat → ByteArray → List ByteArray → Ws → Ou
  | 0 => fun _ _ s => s.fail 49
  | l + 1 => metW (goW kn fol l)
theorem goW_eq (kn : Ky → Option En) (fol : Bool) (l : Nat) : goW kn fol l = goI kn fol (metL kn fol l) := by cases l <;> rfl
def startW (dir : Bool) : Ws := ⟨[rootN], [], dir⟩
def linksN (l : Int) : Nat := (min (max l 0) 8).toNat
/-- Steps -/
def stepsO (kn : Ky → Option En) (steps : List ByteArray) (dir fol : Bool) (links : Int) : Ou := goW kn fol (linksN links) steps (startW dir)
/-- Walk -/
def walkO (kn : Ky → Option En) (path : ByteArray) (fol : Bool) (links : Int) : Ou :=
  if cutE path (rootB path) = 0 then stepsO kn (cutL path (rootB path)) (cutD path (rootB path)) fol links else ⟨false, zeroKy, cutE path (rootB path), zeroNd, []⟩
/-- of each key the first -/
def sameKy (a b : Ky) : Bool := decide (a.d = b.d ∧ a.nm = b.nm)
theorem sameKy_iff (a b : Ky) : sameKy a b = true ↔ a = b := by
  obtain ⟨a1, a2⟩ := a
  obtain ⟨b1, b2⟩ := b
  unfold sameKy
  simp
theorem sameKy_self (a : Ky) : sameKy a a = true := (sameKy_iff a a).2 rfl
abbrev Fl := List (Ky × En)
def fget (fl : Fl) (k : Ky) : Option En := (fl.find? fun x => sameKy k x.1).map (·.2)
def firstE (fl : Fl) (e : En) : Fl := if (fget fl e.key).isSome then fl else fl ++ [(e.key, e)]
def firstsL (es : List En) : Fl := es.foldl firstE []
def negK (k : Ky) : En := ⟨k.d, k.nm, true, 0, 0, 0, nob⟩
/-- what is known of a key -/
def knC (s : Cs) (k : Ky) : Option En := match getL s.L k with | some e => some e | none => if k.d ∈ s.W then some (negK k) else none
def knF (fl : Fl) (s : Cs) (k : Ky) : Option En := match fget fl k with | some e => some e | none => knC s k
end
section
open Go.RowKit

/-- no key twice -/
def Keyed (es : List En) : Prop := ∀ e ∈ es, ∀ f ∈ es, e.d = f.d → e.nm = f.nm → e = f
/-- no id twice -/
def Ided (es : List En) : Prop := ∀ e ∈ es, ∀ f ∈ es, e.id = f.id → e = f

theorem Rises.keyed {es : List En} (h : Rises es) : Keyed es := by
  induction es with
  | nil => intro e he; cases he
  | cons a es ih =>
    obtain ⟨h1, h2⟩ := List.pairwise_cons.1 h
    have no : ∀ f ∈ es, ¬ (a.d = f.d ∧ a.nm = f.nm) := fun f hf ⟨e1, e2⟩ => by
      have := h1 f hf
      rw [lessE_iff] at this
      rcases this with h | ⟨_, h⟩
      · omega
      · rw [e2] at h; exact List.lt_irrefl _ h
    intro e he f hf e1 e2
    rcases List.mem_cons.1 he with q | he' <;> rcases List.mem_cons.1 hf with q' | hf'
    · rw [q, q']
    · rw [q] at e1 e2; exact absurd ⟨e1, e2⟩ (no f hf')
    · rw [q'] at e1 e2; exact absurd ⟨e1.symm, e2.symm⟩ (no e he')
    · exact ih h2 e he' f hf' e1 e2
theorem Rises.apart {es : List En} (h : Rises es) : Apart es := by
  unfold Apart
  refine List.Pairwise.imp ?_ h
  rintro a b hab ⟨e1, e2⟩
  rw [lessE_iff] at hab
  rcases hab with h | ⟨_, h⟩
  · omega
  · rw [e2] at h; exact List.lt_irrefl _ h
theorem Apart.keyed {es : List En} (h : Apart es) : Keyed es := by
  induction es with
  | nil => intro e he; cases he
  | cons a es ih =>
    obtain ⟨h1, h2⟩ := List.pairwise_cons.1 h
    intro e he f hf e1 e2
    rcases List.mem_cons.1 he with q | he' <;> rcases List.mem_cons.1 hf with q' | hf'
    · rw [q, q']
    · rw [q] at e1 e2; exact absurd ⟨e1, e2⟩ (h1 f hf')
    · rw [q'] at e1 e2; exact absurd ⟨e1.symm, e2.symm⟩ (h1 e he')
    · exact ih h2 e he' f hf' e1 e2
theorem Apart.perm {l m : List En} (h : Apart l) (p : l.Perm m) : Apart m := by
  unfold Apart at *
  exact p.pairwise h (fun h ⟨a, b⟩ => h ⟨a.symm, b.symm⟩)
theorem Apart.nodup {l : List En} (h : Apart l) : l.Nodup := by
  refine List.Pairwise.imp ?_ h
  rintro a b hab rfl
  exact hab ⟨rfl, rfl⟩
theorem Keyed.perm {l m : List En} (h : Keyed l) (p : l.Perm m) : Keyed m := fun e he f hf => h e (p.mem_iff.2 he) f (p.mem_iff.2 hf)
theorem Ided.perm {l m : List En} (h : Ided l) (p : l.Perm m) : Ided m := fun e he f hf => h e (p.mem_iff.2 he) f (p.mem_iff.2 hf)
theorem perm_of_mem {l m : List En} (hl : l.Nodup) (hm : m.Nodup) (h : ∀ x, x ∈ l ↔ x ∈ m) : l.Perm m := (List.perm_ext_iff_of_nodup hl hm).2 h

/-- the entry of a key, by membership -/
theorem atE_iff {es : List En} (hk : Keyed es) (d : Int) (nm : ByteArray) (e : En) : atE es d nm = some e ↔ e ∈ es ∧ e.d = d ∧ e.nm = nm := by
  constructor
  · intro h
    unfold atE at h
    cases hq : atI es d nm with
    | none => rw [hq] at h; cases h
    | some i =>
      rw [hq] at h
      obtain ⟨e', he', h1, h2⟩ := atI_lt hq
      have : es[i]? = some e := h
      rw [he'] at this
      cases this
      exact ⟨List.mem_of_getElem? he', h1, h2⟩
  · rintro ⟨hm, h1, h2⟩
    cases hq : atI es d nm with
    | none =>
      unfold atI at hq
      rw [List.findIdx?_eq_none_iff] at hq
      have := hq e hm
      simp [h1, h2] at this
    | some i =>
      obtain ⟨e', he', g1, g2⟩ := atI_lt hq
      rw [atE_some hq he', hk e' (List.mem_of_getElem? he') e hm (g1.trans h1.symm) (g2.trans h2.symm)]
theorem atE_none_iff {es : List En} (d : Int) (nm : ByteArray) : atE es d nm = none ↔ ∀ e ∈ es, ¬ (e.d = d ∧ e.nm = nm) := by
  constructor
  · intro h e he hq
    cases hi : atI es d nm with
    | none =>
      unfold atI at hi
      rw [List.findIdx?_eq_none_iff] at hi
      have := hi e he
      simp [hq] at this
    | some i =>
      obtain ⟨e', he', _⟩ := atI_lt hi
      rw [atE_some hi he'] at h
      cases h
  · intro h
    refine atE_none (atI_miss es d nm fun j e he => h e (List.mem_of_getElem? he))
theorem atE_key {es : List En} {d : Int} {nm : ByteArray} {e : En} (h : atE es d nm = some e) : e ∈ es ∧ e.d = d ∧ e.nm = nm := by
  cases hq : atI es d nm with
  | none => rw [atE_none hq] at h; cases h
  | some i =>
    obtain ⟨e', he', h1, h2⟩ := atI_lt hq
    rw [atE_some hq he'] at h
    cases h
    exact ⟨List.mem_of_getElem? he', h1, h2⟩
theorem atE_perm {l m : List En} (hk : Keyed l) (p : l.Perm m) (d : Int) (nm : ByteArray) : atE l d nm = atE m d nm := by
  cases h : atE m d nm with
  | none => rw [atE_none_iff] at h ⊢; exact fun e he => h e (p.mem_iff.1 he)
  | some e => rw [atE_iff (hk.perm p)] at h; rw [atE_iff hk]; exact ⟨p.mem_iff.2 h.1, h.2⟩
theorem nowE_at (es : List En) (d : Int) (nm : ByteArray) : nowE es d nm = (match atE es d nm with | some e => e | none => ⟨d, nm, true, 0, 0, 0, ⟨#[]⟩⟩) := rfl
theorem nowE_perm {l m : List En} (hk : Keyed l) (p : l.Perm m) (d : Int) (nm : ByteArray) : nowE l d nm = nowE m d nm := by rw [nowE_at, nowE_at, atE_perm hk p]
theorem nodeE_iff {es : List En} (hi : Ided es) {id : Int} (h1 : id ≠ 1) (e : En) : nodeE es id = some e ↔ e ∈ es ∧ e.id = id := by
  unfold nodeE
  rw [if_neg h1]
  constructor
  · intro h
    exact ⟨List.mem_of_find?_eq_some h, by simpa using List.find?_some h⟩
  · rintro ⟨hm, he⟩
    cases hq : es.find? fun e => decide (e.id = id) with
    | none => rw [List.find?_eq_none] at hq; have := hq e hm; simp [he] at this
    | some f =>
      have h2 : f.id = id := by simpa using List.find?_some hq
      rw [hi f (List.mem_of_find?_eq_some hq) e hm (h2.trans he.symm)]
theorem nodeE_none_iff (es : List En) {id : Int} (h1 : id ≠ 1) : nodeE es id = none ↔ ∀ e ∈ es, e.id ≠ id := by
  unfold nodeE
  rw [if_neg h1, List.find?_eq_none]
  constructor
  · intro h e he; simpa using h e he
  · intro h e he; simpa using h e he
theorem nodeE_mem {es : List En} {id : Int} {e : En} (h1 : id ≠ 1) (h : nodeE es id = some e) : e ∈ es ∧ e.id = id := by
  unfold nodeE at h
  rw [if_neg h1] at h
  exact ⟨List.mem_of_find?_eq_some h, by simpa using List.find?_some h⟩
theorem nodeE_perm {l m : List En} (hi : Ided l) (p : l.Perm m) (id : Int) : nodeE l id = nodeE m id := by
  by_cases h1 : id = 1
  · subst h1; rfl
  · cases h : nodeE m id with
    | none => rw [nodeE_none_iff _ h1] at h ⊢; exact fun e he => h e (p.mem_iff.1 he)
    | some e => rw [nodeE_iff (hi.perm p) h1] at h; rw [nodeE_iff hi h1]; exact ⟨p.mem_iff.2 h.1, h.2⟩
theorem dirE_perm {l m : List En} (hi : Ided l) (p : l.Perm m) (id : Int) : dirE l id = dirE m id := by unfold dirE; rw [nodeE_perm hi p]
theorem namesN_perm {l m : List En} (p : l.Perm m) (d : Int) : namesN l d = namesN m d := (p.filter _).length_eq
theorem withinF_perm {l m : List En} (hi : Ided l) (p : l.Perm m) (n : Nat) (d a : Int) : withinF l n d a = withinF m n d a := by
  induction n generalizing d with
  | zero => rfl
  | succ n ih =>
    rw [withinF, withinF, nodeE_perm hi p]
    split
    · rfl
    · cases nodeE m d with
      | none => rfl
      | some e => 
        simp only []
        split
        · rfl
        · exact ih _
theorem namesN_pos {es : List En} {d : Int} : 0 < namesN es d ↔ ∃ e ∈ es, e.d = d := by
  unfold namesN
  rw [List.length_pos_iff_exists_mem]
  constructor
  · rintro ⟨e, he⟩
    rw [List.mem_filter] at he
    exact ⟨e, he.1, by simpa using he.2⟩
  · rintro ⟨e, he, hd⟩
    exact ⟨e, List.mem_filter.2 ⟨he, by simpa using hd⟩⟩

theorem goneL_mem {es : List En} {d : Int} {nm : ByteArray} {x : En} : x ∈ goneL es d nm ↔ x ∈ es ∧ ¬ (x.d = d ∧ x.nm = nm) := by
  unfold goneL
  rw [List.mem_filter, Bool.not_eq_true', decide_eq_false_iff_not]
theorem goneL_none {es : List En} {d : Int} {nm : ByteArray} (h : atE es d nm = none) : goneL es d nm = es := by
  unfold goneL
  rw [List.filter_eq_self]
  intro a ha
  rw [Bool.not_eq_true', decide_eq_false_iff_not]
  exact (atE_none_iff d nm).1 h a ha
theorem goneL_rises {es : List En} (h : Rises es) (d : Int) (nm : ByteArray) : Rises (goneL es d nm) := h.filter _
theorem goneL_perm {l m : List En} (p : l.Perm m) (d : Int) (nm : ByteArray) : (goneL l d nm).Perm (goneL m d nm) := p.filter _

/-- an entry put at its place -/
def insE (x : En) : List En → List En
  | [] => [x]
  | y :: l => if lessK x.d x.nm y.d y.nm then x :: y :: l else y :: insE x l
/-- entries, rising -/
def srt : List En → List En
  | [] => []
  | x :: l => insE x (srt l)
theorem insE_perm (x : En) (l : List En) : (insE x l).Perm (x :: l) := by
  induction l with
  | nil => exact List.Perm.refl _
  | cons y l ih =>
    unfold insE
    split
    · exact List.Perm.refl _
    · exact (List.Perm.cons y ih).trans (List.Perm.swap x y l)
theorem srt_perm (l : List En) : (srt l).Perm l := by
  induction l with
  | nil => exact List.Perm.refl _
  | cons x l ih => exact (insE_perm x (srt l)).trans (List.Perm.cons x ih)
theorem insE_rises {x : En} {l : List En} (h : Rises l) (hx : ∀ y ∈ l, ¬ (x.d = y.d ∧ x.nm = y.nm)) : Rises (insE x l) := by
  induction l with
  | nil => exact List.pairwise_singleton _ _
  | cons y l ih =>
    obtain ⟨h1, h2⟩ := List.pairwise_cons.1 h
    unfold insE
    split
    · rename_i hl
      refine List.pairwise_cons.2 ⟨fun z hz => ?_, h⟩
      rcases List.mem_cons.1 hz with rfl | hz
      · exact hl
      · exact lessE_trans (show lessE x y from hl) (h1 z hz)
    · rename_i hl
      refine List.pairwise_cons.2 ⟨fun z hz => ?_, ih h2 fun y hy => hx y (List.mem_cons_of_mem _ hy)⟩
      rcases List.mem_cons.1 ((insE_perm x l).mem_iff.1 hz) with rfl | hz
      · rcases lessE_total z y with h | h | h
        · exact absurd h hl
        · exact absurd h (hx y (List.mem_cons_self ..))
        · exact h
      · exact h1 z hz
theorem srt_rises {l : List En} (h : Apart l) : Rises (srt l) := by
  induction l with
  | nil => exact List.Pairwise.nil
  | cons x l ih =>
    obtain ⟨h1, h2⟩ := List.pairwise_cons.1 h
    exact insE_rises (ih h2) fun y hy => h1 y ((srt_perm l).mem_iff.1 hy)
theorem srt_mem {l : List En} {x : En} : x ∈ srt l ↔ x ∈ l := (srt_perm l).mem_iff
theorem srt_len (l : List En) : (srt l).length = l.length := (srt_perm l).length_eq
theorem Rises.srt {l m : List En} (h : Rises l) (p : l.Perm m) : srt m = l :=
  Rises.same (srt_rises (h.apart.perm p)) h fun x => by rw [srt_mem, p.mem_iff]
theorem srt_self {l : List En} (h : Rises l) : srt l = l := h.srt (List.Perm.refl _)
theorem srt_congr {l m : List En} (h : Apart l) (p : l.Perm m) : srt l = srt m :=
  Rises.same (srt_rises h) (srt_rises (h.perm p)) fun x => by rw [srt_mem, srt_mem, p.mem_iff]
theorem apart_snoc {l : List En} {x : En} (h : Apart l) (hx : ∀ y ∈ l, ¬ (y.d = x.d ∧ y.nm = x.nm)) : Apart (l ++ [x]) := by
  unfold Apart at *
  rw [List.pairwise_append]
  exact ⟨h, List.pairwise_singleton _ _, fun a ha b hb => by rw [List.mem_singleton.1 hb]; exact hx a ha⟩
theorem apart_gone_snoc {l : List En} (x : En) (h : Apart l) : Apart (goneL l x.d x.nm ++ [x]) :=
  apart_snoc (h.filter _) fun _ hy => (goneL_mem.1 hy).2

/-- what the program's put makes of a list -/
def putL (es : List En) (x : En) : List En := if x.neg then goneL es x.d x.nm else srt (goneL es x.d x.nm ++ [x])
theorem putL_rises {es : List En} (h : Rises es) (x : En) : Rises (putL es x) := by
  unfold putL
  split
  · exact goneL_rises h _ _
  · exact srt_rises (apart_gone_snoc x h.apart)
theorem putL_mem {es : List En} {x y : En} : y ∈ putL es x ↔ (y ∈ es ∧ ¬ (y.d = x.d ∧ y.nm = x.nm)) ∨ (y = x ∧ x.neg = false) := by
  unfold putL
  split
  · rename_i h; rw [goneL_mem]; simp [h]
  · rename_i h
    rw [srt_mem, List.mem_append, goneL_mem, List.mem_singleton]
    simp [h]
theorem putL_eq {es m : List En} {x : En} (h : Rises es) (hm : Apart m) (hq : ∀ y, y ∈ m ↔ (y ∈ es ∧ ¬ (y.d = x.d ∧ y.nm = x.nm)) ∨ (y = x ∧ x.neg = false)) : putL es x = srt m :=
  Rises.same (putL_rises h x) (srt_rises hm) fun y => by rw [putL_mem, srt_mem, hq]
end
end Go.Proofs.Ytppbbddlbfgpfaa
