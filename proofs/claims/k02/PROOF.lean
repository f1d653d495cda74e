import PyProof.Rows.All
import Wide.All
import OpenK.AllK
import Wide.FinOn
import HandS.ForMost
import HandS.Walk
import HandS.Strs
import HandS.SetFor
import HandS.IsInst
import HandS.TupAny
import HandS.Zip
import HandS.Defaults
import HandS.NoneIn
import HandS.Codes
import HandS.MakeKwOnly
import PySem.Challenge.RW_firmroll_k02_marks_sizes_and_what_was_se
set_option Elab.async false
set_option linter.all false
set_option maxRecDepth 100000
set_option maxHeartbeats 8000000
namespace FR
open PySem PySem.Spec PyProof.Rows L2
/-! ### heaps: all but what may change stays -/
structure Kp (S : List Addr) (H H' : Hp) : Prop where
  kp : ∀ b o, H b = some o → b ∉ S → H' b = some o
  tp : ∀ b xs, H b = some (.tup xs) → H' b = some (.tup xs)
  dm : ∀ b, H' b = none → H b = none
theorem Kp.refl (S : List Addr) (H : Hp) : Kp S H H := ⟨fun _ _ h _ => h, fun _ _ h => h, fun _ h => h⟩
theorem Kp.trans {S : List Addr} {H H1 H2 : Hp} (a : Kp S H H1) (b : Kp S H1 H2) : Kp S H H2 :=
  ⟨fun c o h n => b.kp c o (a.kp c o h n) n, fun c xs h => b.tp c xs (a.tp c xs h), fun c h => a.dm c (b.dm c h)⟩
theorem Kp.mono {S S' : List Addr} {H H' : Hp} (a : Kp S H H') (h : ∀ b, b ∈ S → b ∈ S') : Kp S' H H' :=
  ⟨fun c o e n => a.kp c o e fun m => n (h c m), a.tp, a.dm⟩
theorem Kp.of {S : List Addr} {H H' : Hp} (s : Same H H') : Kp S H H' := ⟨fun b o h _ => s b o h, fun b xs h => s b _ h, fun b h => s.free h⟩
theorem same_new {H : Hp} {p : Addr} {o : HO} (h : H p = none) : Same H (upd H p o) := fun b u q => by
  rw [upd_ne (ne_of_none q h)]
  exact q
theorem Kp.new {S : List Addr} {H : Hp} {p : Addr} {o : HO} (h : H p = none) : Kp S H (upd H p o) := .of (same_new h)
theorem Kp.set {S : List Addr} {H : Hp} {p : Addr} {xs : List V} {o : HO} (h : H p = some (.lst xs)) (m : p ∈ S) : Kp S H (upd H p o) := by
  refine ⟨fun b u e n => ?_, fun b ys e => ?_, fun b e => ?_⟩
  · have nb : b ≠ p := fun q => n (q ▸ m)
    rw [upd_ne nb]
    exact e
  · have nb : b ≠ p := fun q => by
      rw [q, h] at e
      cases e
    rw [upd_ne nb]
    exact e
  · by_cases nb : b = p
    · rw [nb, upd_same] at e
      cases e
    · rw [upd_ne nb] at e
      exact e
theorem Kp.over {S : List Addr} {H H1 : Hp} {p : Addr} {o : HO} (k : Kp S H H1) (h : H p = none) : Kp S H (upd H1 p o) := by
  refine ⟨fun b u e n => ?_, fun b ys e => ?_, fun b e => ?_⟩
  · rw [upd_ne (ne_of_none e h)]
    exact k.kp b u e n
  · rw [upd_ne (ne_of_none e h)]
    exact k.tp b ys e
  · by_cases nb : b = p
    · rw [nb]
      exact h
    · rw [upd_ne nb] at e
      exact k.dm b e
theorem Kp.same {H H' : Hp} (a : Kp [] H H') : Same H H' := fun b o e => a.kp b o e (by simp)
theorem Kp.lst {S : List Addr} {H H' : Hp} {p : Addr} {xs : List V} (a : Kp S H H') (h : H p = some (.lst xs)) (n : p ∉ S) : H' p = some (.lst xs) := a.kp p _ h n
/-- a place that is new behind H is none of those that stood in H -/
theorem nin_new {S : List Addr} {H : Hp} {p : Addr} (h : H p = none) (k : ∀ b, b ∈ S → H b ≠ none) : p ∉ S := fun m => k p m h
theorem ne_new {H : Hp} {a b : Addr} {o : HO} (h : H a = some o) (h' : H b = none) : b ≠ a := fun e => ne_of_none h h' e.symm

theorem sqT {K : PySem.W.Frag} {H : Hp} {a : Addr} {xs : List V} (h : H a = some (.tup xs)) : SqT K H a xs := .inl (.inl h)
theorem sqL {K : PySem.W.Frag} {H : Hp} {a : Addr} {xs : List V} (h : H a = some (.lst xs)) : SqL K H a xs := .inl (.inl h)
theorem upd_at {H : Hp} {a b : Addr} {o u : HO} (h : H b = some u) (n : H a = none) : (upd H a o) b = some u := by
  rw [upd_ne (ne_of_none h n)]
  exact h

/-! ### the tray -/
structure TrayAt (H : Hp) (t g : Addr) (N : Nat) : Prop where
  ex : ∃ (gs : List Int) (x f n : Int), H t = some (.lst [.ref g, .int x, .int f, .int n]) ∧ H g = some (.lst (gs.map V.int)) ∧ 0 ≤ f ∧ f < 2 ^ 61 ∧ 0 ≤ n ∧ n ≤ (N : Int)
theorem TrayAt.mono {H : Hp} {t g : Addr} {N M : Nat} (T : TrayAt H t g N) (h : N ≤ M) : TrayAt H t g M := by
  obtain ⟨gs, x, f, n, h1, h2, h3, h4, h5, h6⟩ := T.ex
  exact ⟨gs, x, f, n, h1, h2, h3, h4, h5, by omega⟩
theorem TrayAt.keep {S : List Addr} {H H' : Hp} {t g : Addr} {N : Nat} (T : TrayAt H t g N) (k : Kp S H H') (ht : t ∉ S) (hg : g ∉ S) : TrayAt H' t g N := by
  obtain ⟨gs, x, f, n, h1, h2, h3⟩ := T.ex
  exact ⟨gs, x, f, n, k.kp _ _ h1 ht, k.kp _ _ h2 hg, h3⟩
theorem TrayAt.same {H H' : Hp} {t g : Addr} {N : Nat} (T : TrayAt H t g N) (k : Same H H') : TrayAt H' t g N :=
  T.keep (S := []) (.of k) (by simp) (by simp)
theorem TrayAt.neT {H : Hp} {t g p : Addr} {N : Nat} (T : TrayAt H t g N) (h : H p = none) : p ∉ [t, g] := by
  obtain ⟨gs, x, f, n, h1, h2, h3⟩ := T.ex
  intro m
  simp only [List.mem_cons, List.not_mem_nil, or_false] at m
  rcases m with rfl | rfl
  · rw [h1] at h
    cases h
  · rw [h2] at h
    cases h
theorem TrayAt.over {H : Hp} {t g p : Addr} {N : Nat} {o : HO} (T : TrayAt H t g N) (h : p ∉ [t, g]) : TrayAt (upd H p o) t g N := by
  obtain ⟨gs, x, f, n, h1, h2, h3⟩ := T.ex
  simp only [List.mem_cons, List.not_mem_nil, or_false, not_or] at h
  exact ⟨gs, x, f, n, (upd_ne fun e => h.1 e.symm).trans h1, (upd_ne fun e => h.2 e.symm).trans h2, h3⟩
def spDraw : Sp := fun vs H Q _ => ∃ (t g : Addr) (N : Nat) (many : Int), vs = [.ref t, .int many] ∧ TrayAt H t g N ∧ N < 2 ^ 60 ∧ 0 < many ∧ many < 1073741824 ∧
  ∀ (H' : Hp) (k : Int), 0 ≤ k → k < many → TrayAt H' t g (N + 1) → Kp [t, g] H H' → Q (.int k) H'
def spTray (K : PySem.W.Frag) : Sp := fun vs H Q _ => ∃ (a : Addr) (ns : List Int), vs = [.ref a] ∧ SqL K H a (ns.map V.int) ∧ ns.length ≤ 63 ∧
  ∀ (t g : Addr) (H' : Hp), Same H H' → H t = none → H g = none → TrayAt H' t g 0 → Q (.ref t) H'
theorem map_int_at {ns : List Int} {i : Nat} {y : V} (h : (ns.map V.int)[i]? = some y) : ∃ z, ns[i]? = some z ∧ y = V.int z := by
  rw [List.getElem?_map] at h
  cases e : ns[i]? with
  | none =>
    rw [e] at h
    cases h
  | some z =>
    rw [e] at h
    exact ⟨z, rfl, (Option.some.inj h).symm⟩
def lenAt (g : Addr) (H : Hp) : Nat := match H g with
  | some (.lst xs) => xs.length
  | _ => 0
theorem lenAt_of {g : Addr} {H : Hp} {xs : List V} (h : H g = some (.lst xs)) : lenAt g H = xs.length := by
  unfold lenAt
  rw [h]
theorem eqv_ints_nil : ∀ gs : List Int, PyData.eqv (.list (gs.map PyData.int)) (.list []) = gs.isEmpty
  | [] => rfl
  | _ :: _ => rfl
theorem dpInts {K : PySem.W.Frag} {H : Hp} : ∀ gs : List Int, DpAll K H (gs.map V.int) (gs.map PyData.int)
  | [] => .nil
  | g :: r => .cons (.int g) (dpInts r)
theorem erase0 (gs : List Int) : (gs.map V.int).eraseIdx 0 = (gs.drop 1).map V.int := by cases gs <;> rfl
end FR
namespace FR
open PySem PySem.Spec PyProof.Rows L2
/-! ### words -/
def WordOk (s : Str) : Prop := 1 ≤ (TL.tl s).length ∧ (TL.tl s).length ≤ 8 ∧ ∀ c ∈ TL.tl s, 97 ≤ c ∧ c ≤ 122
instance (s : Str) : Decidable (WordOk s) := by unfold WordOk; infer_instance
def someWords : List Str := ["give", "take", "use", "lead", "seen", "a", "b", "ab"]
theorem some_ok : ∀ s ∈ someWords, WordOk s := by decide +kernel
theorem some_at {k : Int} (h0 : 0 ≤ k) (h1 : k < 8) : ∃ s, atI (someWords.map V.str) k = some (.str s) ∧ WordOk s := by
  have hk : k.toNat < someWords.length := by show k.toNat < 8; omega
  refine ⟨someWords[k.toNat], ?_, some_ok _ (List.getElem_mem hk)⟩
  refine at_of (j := k.toNat) (by omega) ?_
  rw [List.getElem?_map, List.getElem?_eq_getElem hk]
  rfl
def abc : Str := "abcdefghijklmnopqrstuvwxyz"
theorem abc_all : ∀ j : Fin 26, abc.cps.toList[j.val]? = some (97 + j.val) := by decide +kernel
theorem abc_len : abc.length ≤ sizeLine := by decide +kernel
theorem abc_at {k : Int} (h0 : 0 ≤ k) (h1 : k < 26) : atI abc.cps.toList k = some (97 + k.toNat) := by
  have e : k = ((k.toNat : Nat) : Int) := by omega
  have h := abc_all ⟨k.toNat, by omega⟩
  rw [e]
  exact atI_nat h
/-- the text of these small letters -/
def letters (l : List Nat) : Str := ⟨l.toArray⟩
theorem join_one : ∀ l : List Nat, TL.tl (Txt.join Str.empty (l.map fun c => (⟨#[c]⟩ : Str))) = l := fun l => by
  rw [TL.join_eq, TL.tl_join]
  induction l with
  | nil => rfl
  | cons c r ih =>
    cases r with
    | nil => rfl
    | cons d r =>
      have e : TL.joinL (TL.tl Str.empty) (List.map TL.tl (List.map (fun c => (⟨#[c]⟩ : Str)) (c :: d :: r))) = [c] ++ ([] ++ TL.joinL (TL.tl Str.empty) (List.map TL.tl (List.map (fun c => (⟨#[c]⟩ : Str)) (d :: r)))) := rfl
      rw [e, ih]
      rfl
theorem ones_sum : ∀ l : List Nat, ((l.map fun c => (⟨#[c]⟩ : Str)).map (·.length)).sum = l.length
  | [] => rfl
  | c :: r => by
    rw [List.map_cons, List.map_cons, List.sum_cons, ones_sum r, List.length_cons, Nat.add_comm]
    rfl
def spWord : Sp := fun vs H Q _ => ∃ (t g : Addr) (N : Nat), vs = [.ref t] ∧ TrayAt H t g N ∧ N + 20 < 2 ^ 60 ∧
  ∀ (H' : Hp) (s : Str), WordOk s → TrayAt H' t g (N + 12) → Kp [t, g] H H' → Q (.str s) H'
end FR
namespace FR
open PySem PySem.Spec PyProof.Rows L2
/-! ### what is done, deeds -/
inductive What where
  | give (p k : Str) (m : Int)
  | take (p k : Str) (m : Int)
  | use (p v : Str)
  deriving DecidableEq
def What.vs : What → List V
  | .give p k m => [.str "give", .str p, .str k, .int m]
  | .take p k m => [.str "take", .str p, .str k, .int m]
  | .use p v => [.str "use", .str p, .str v]
def KindOk (k : Str) : Prop := k = "use" ∨ k = "lead"
def What.Ok (who many : Int) : What → Prop
  | .give p k m => WordOk p ∧ KindOk k ∧ who < m ∧ m < many
  | .take p k m => WordOk p ∧ KindOk k ∧ who < m ∧ m < many
  | .use p v => WordOk p ∧ WordOk v
structure Act where
  who : Int
  num : Int
  note : List Int
  what : What
  deriving DecidableEq
def ActAt (H : Hp) (p : Addr) (a : Act) : Prop := ∃ n q, H p = some (.tup [.int a.who, .int a.num, .ref n, .ref q]) ∧ H n = some (.tup (a.note.map V.int)) ∧ H q = some (.tup a.what.vs)
theorem ActAt.keep {S : List Addr} {H H' : Hp} {p : Addr} {a : Act} (h : ActAt H p a) (k : Kp S H H') : ActAt H' p a := by
  obtain ⟨n, q, h1, h2, h3⟩ := h
  exact ⟨n, q, k.tp _ _ h1, k.tp _ _ h2, k.tp _ _ h3⟩
abbrev ActsAt (H : Hp) (ps : List Addr) (as : List Act) : Prop := Paired (fun p a => ActAt H p a) ps as
theorem ActsAt.keep {S : List Addr} {H H' : Hp} {ps : List Addr} {as : List Act} (h : ActsAt H ps as) (k : Kp S H H') : ActsAt H' ps as := Paired.mapP h fun _ _ q => q.keep k
theorem paired_snoc {α β : Type} {F : α → β → Prop} : ∀ {xs : List α} {ys : List β} {x : α} {y : β}, Paired F xs ys → F x y → Paired F (xs ++ [x]) (ys ++ [y])
  | _, _, _, _, .nil, h => .cons h .nil
  | _, _, _, _, .cons r t, h => .cons r (paired_snoc t h)
theorem paired_at {α β : Type} {F : α → β → Prop} : ∀ {xs : List α} {ys : List β} {i : Nat} {x : α}, Paired F xs ys → xs[i]? = some x → ∃ y, ys[i]? = some y ∧ F x y
  | _, _, _, _, .nil, h => by simp at h
  | _, _, 0, _, .cons r t, h => by
    simp at h
    subst h
    exact ⟨_, rfl, r⟩
  | _, _, i + 1, x, .cons r t, h => by
    obtain ⟨y, h1, h2⟩ := paired_at (i := i) (x := x) t (by simpa using h)
    exact ⟨y, by simpa using h1, h2⟩
theorem strs_at {ms : List Str} {k : Int} (h0 : 0 ≤ k) (h1 : k < (ms.length : Int)) : ∃ s, s ∈ ms ∧ atI (ms.map V.str) k = some (.str s) := by
  have hk : k.toNat < ms.length := by omega
  refine ⟨ms[k.toNat], List.getElem_mem hk, at_of (j := k.toNat) (by omega) ?_⟩
  rw [List.getElem?_map, List.getElem?_eq_getElem hk]
  rfl
theorem kind_at {k : Int} (h0 : 0 ≤ k) (h1 : k < 2) : ∃ s, KindOk s ∧ atI ([.str "use", .str "lead"] : List V) k = some (.str s) := by
  obtain ⟨s, m, e⟩ := strs_at (ms := ["use", "lead"]) h0 h1
  refine ⟨s, ?_, e⟩
  simp at m
  exact m
theorem deal_at {k : Int} (h0 : 0 ≤ k) (h1 : k < 4) : ∃ s : Str, (s = "give" ∨ s = "take") ∧ atI ([.str "give", .str "give", .str "give", .str "take"] : List V) k = some (.str s) := by
  obtain ⟨s, m, e⟩ := strs_at (ms := ["give", "give", "give", "take"]) h0 h1
  refine ⟨s, ?_, e⟩
  simp at m
  exact m
def spWhat : Sp := fun vs H Q _ => ∃ (t g m : Addr) (N : Nat) (who many : Int) (ms : List Str), vs = [.ref t, .int who, .int many, .ref m] ∧ TrayAt H t g N ∧ N + 40 < 2 ^ 60 ∧ 0 ≤ who ∧ who < many ∧ many ≤ 6 ∧
  H m = some (.lst (ms.map V.str)) ∧ m ∉ [t, g] ∧ ms ≠ [] ∧ ms.length ≤ 3 ∧ (∀ s ∈ ms, WordOk s) ∧
  ∀ (H' : Hp) (q : Addr) (wt : What), H q = none → H' q = some (.tup wt.vs) → wt.Ok who many → TrayAt H' t g (N + 16) → Kp [t, g] H H' → Q (.ref q) H'
end FR
namespace FR
open PySem PySem.Spec PyProof.Rows L2
/-! ### a world: deeds done one behind the other -/
/-- the deeds so far, and what each member knows of them -/
inductive Wd (many : Nat) : List Act → List (List Int) → Prop
  | nil : Wd many [] (List.replicate many (List.replicate many 0))
  | step {acts : List Act} {known : List (List Int)} {i : Nat} {row row' : List Int} {c : Int} {wt : What} : Wd many acts known → known[i]? = some row →
      (row' = row ∨ ∃ (j : Nat) (ro : List Int), known[j]? = some ro ∧ row' = List.zipWith max row ro) → row'[i]? = some c → wt.Ok i many →
      Wd many (acts ++ [⟨i, c + 1, row', wt⟩]) (known.set i (row'.set i (c + 1)))
theorem Wd.lens {many : Nat} {acts : List Act} {known : List (List Int)} (h : Wd many acts known) : known.length = many ∧ ∀ r ∈ known, r.length = many := by
  induction h with
  | nil => exact ⟨List.length_replicate, fun r m => by rw [(List.mem_replicate.mp m).2]; exact List.length_replicate⟩
  | step w hi hr hc ok ih =>
    obtain ⟨h1, h2⟩ := ih
    refine ⟨by rw [List.length_set]; exact h1, fun r m => ?_⟩
    rcases List.mem_or_eq_of_mem_set m with m | rfl
    · exact h2 r m
    · rw [List.length_set]
      have q := h2 _ (List.mem_of_getElem? hi)
      rcases hr with rfl | ⟨j, ro, hj, rfl⟩
      · exact q
      · rw [List.length_zipWith, q, h2 _ (List.mem_of_getElem? hj), Nat.min_self]
theorem paired_set {α β : Type} {F : α → β → Prop} {x : α} {y : β} (r : F x y) : ∀ {xs : List α} {ys : List β} (i : Nat), Paired F xs ys → Paired F (xs.set i x) (ys.set i y)
  | _, _, _, .nil => .nil
  | _, _, 0, .cons _ t => .cons r t
  | _, _, i + 1, .cons q t => .cons q (paired_set r i t)
theorem paired_len {α β : Type} {F : α → β → Prop} {xs : List α} {ys : List β} (h : Paired F xs ys) : xs.length = ys.length := Paired.length h
theorem paired_at2 {α β : Type} {F : α → β → Prop} : ∀ {xs : List α} {ys : List β} {i : Nat} {y : β}, Paired F xs ys → ys[i]? = some y → ∃ x, xs[i]? = some x ∧ F x y
  | _, _, _, _, .nil, h => by simp at h
  | _, _, 0, _, .cons r t, h => by
    simp at h
    subst h
    exact ⟨_, rfl, r⟩
  | _, _, i + 1, x, .cons r t, h => by
    obtain ⟨y, h1, h2⟩ := paired_at2 (i := i) (y := x) t (by simpa using h)
    exact ⟨y, by simpa using h1, h2⟩
/-- only the i-th is looked at anew -/
theorem paired_imp_ne {α β : Type} {F G : α → β → Prop} : ∀ {xs : List α} {ys : List β} (p : α → Prop), Paired F xs ys → (∀ x ∈ xs, p x) → (∀ x y, p x → F x y → G x y) → Paired G xs ys
  | _, _, _, .nil, _, _ => .nil
  | _, _, p, .cons r t, h, f => .cons (f _ _ (h _ (List.mem_cons_self ..)) r) (paired_imp_ne p t (fun x m => h x (List.mem_cons_of_mem _ m)) f)
abbrev RowsAt (H : Hp) (as : List Addr) (known : List (List Int)) : Prop := Paired (fun a (r : List Int) => H a = some (.lst (r.map V.int))) as known
theorem max_int (i j : Int) : (if j > i then j else i) = max i j := by
  rw [Int.max_def]
  split <;> split <;> omega
/-- the heap while a world is made: H0 ahead of it; kn what is known, ac the deeds, m the powers; the tray as at N -/
structure WAt (H0 H : Hp) (t g m kn ac : Addr) (ms : List Str) (as ps : List Addr) (acts : List Act) (known : List (List Int)) (N : Nat) : Prop where
  hkn : H kn = some (.lst (as.map V.ref))
  hac : H ac = some (.lst (ps.map V.ref))
  hm : H m = some (.lst (ms.map V.str))
  rows : RowsAt H as known
  nd : as.Nodup
  apart : ∀ a ∈ as, a ∉ [t, g, kn, ac, m]
  nkn : kn ∉ [t, g, ac, m]
  nac : ac ∉ [t, g, m]
  nm : m ∉ [t, g]
  acts : ActsAt H ps acts
  T : TrayAt H t g N
  kp : Kp [t, g] H0 H
  fkn : H0 kn = none
  fac : H0 ac = none
  frows : ∀ a ∈ as, H0 a = none
section
variable {H0 H H' : Hp} {t g m kn ac : Addr} {ms : List Str} {as ps : List Addr} {acts : List Act} {known : List (List Int)} {N M : Nat}
theorem RowsAt.keep {S : List Addr} (h : RowsAt H as known) (k : Kp S H H') (n : ∀ a ∈ as, a ∉ S) : RowsAt H' as known :=
  paired_imp_ne (fun a => a ∉ S) h n fun x y nx e => k.kp x _ e nx
/-- the tray was drawn from, new things were made -/
theorem WAt.keep (W : WAt H0 H t g m kn ac ms as ps acts known N) (k : Kp [t, g] H H') (T : TrayAt H' t g M) : WAt H0 H' t g m kn ac ms as ps acts known M := by
  have n1 := W.nkn
  have n2 := W.nac
  have n3 := W.nm
  simp only [List.mem_cons, List.not_mem_nil, or_false, not_or] at n1 n2 n3
  refine { W with
    hkn := k.kp _ _ W.hkn (by simp [n1])
    hac := k.kp _ _ W.hac (by simp [n2])
    hm := k.kp _ _ W.hm (by simp [n3])
    rows := W.rows.keep k fun a h => ?_
    acts := W.acts.keep k
    T := T
    kp := W.kp.trans k }
  have q := W.apart a h
  simp only [List.mem_cons, List.not_mem_nil, or_false, not_or] at q ⊢
  exact ⟨q.1, q.2.1⟩
theorem WAt.mono (W : WAt H0 H t g m kn ac ms as ps acts known N) (h : N ≤ M) : WAt H0 H t g m kn ac ms as ps acts known M := { W with T := W.T.mono h }
theorem WAt.row (W : WAt H0 H t g m kn ac ms as ps acts known N) {i : Nat} {row : List Int} (h : known[i]? = some row) : ∃ a, as[i]? = some a ∧ H a = some (.lst (row.map V.int)) ∧ (as.map V.ref)[i]? = some (V.ref a) := by
  obtain ⟨a, h1, h2⟩ := paired_at2 W.rows h
  refine ⟨a, h1, h2, ?_⟩
  rw [List.getElem?_map, h1]
  rfl
theorem nd_set {α : Type} {l : List α} {i : Nat} {x : α} (h : l.Nodup) (n : x ∉ l) : (l.set i x).Nodup := by
  induction l generalizing i with
  | nil => exact h
  | cons a r ih =>
    rw [List.nodup_cons] at h
    rw [List.mem_cons, not_or] at n
    cases i with
    | zero =>
      show (x :: r).Nodup
      rw [List.nodup_cons]
      exact ⟨n.2, h.2⟩
    | succ i =>
      show (a :: r.set i x).Nodup
      rw [List.nodup_cons]
      refine ⟨fun m => ?_, ih h.2 n.2⟩
      rcases List.mem_or_eq_of_mem_set m with m | e
      · exact h.1 m
      · exact n.1 e.symm
theorem map_set_ref (as : List Addr) (i : Nat) (D : Addr) : (as.map V.ref).set i (.ref D) = (as.set i D).map V.ref := by rw [List.map_set]
/-- known[i] = the new list at D -/
theorem WAt.put (W : WAt H0 H t g m kn ac ms as ps acts known N) {i : Nat} {row : List Int} {D : Addr} (hD : H D = some (.lst (row.map V.int))) (nD : D ∉ [t, g, kn, ac, m]) (nas : D ∉ as) (f : H0 D = none) :
    WAt H0 (upd H kn (.lst ((as.set i D).map V.ref))) t g m kn ac ms (as.set i D) ps acts (known.set i row) N := by
  have n1 := W.nkn
  have n2 := W.nac
  have n3 := W.nm
  simp only [List.mem_cons, List.not_mem_nil, or_false, not_or] at n1 n2 n3 nD
  have hkn : ∀ a ∈ as, a ≠ kn := fun a h e => W.apart a h (by rw [e]; simp)
  refine {
    hkn := upd_same, hac := (upd_ne fun e => n1.2.2.1 e.symm).trans W.hac, hm := (upd_ne fun e => n1.2.2.2 e.symm).trans W.hm, rows := ?_, nd := nd_set W.nd nas, apart := fun a h => ?_, nkn := W.nkn, nac := W.nac, nm := W.nm,
    acts := W.acts.keep (S := [kn]) (.set W.hkn (by simp)), T := W.T.over (by simp [n1]), kp := W.kp.over W.fkn, fkn := W.fkn, fac := W.fac, frows := fun a h => ?_ }
  · refine paired_set (F := fun (a : Addr) (r : List Int) => upd H kn (.lst ((as.set i D).map V.ref)) a = some (.lst (r.map V.int))) ((upd_ne nD.2.2.1).trans hD) i (paired_imp_ne (fun (a : Addr) => a ≠ kn) W.rows hkn fun x y nx e => (upd_ne nx).trans e)
  · rcases List.mem_or_eq_of_mem_set h with h | rfl
    · exact W.apart a h
    · simp only [List.mem_cons, List.not_mem_nil, or_false, not_or]
      exact nD
  · rcases List.mem_or_eq_of_mem_set h with h | rfl
    · exact W.frows a h
    · exact f
/-- known[i][..] = ..: the i-th row is changed in its place -/
theorem WAt.turn (W : WAt H0 H t g m kn ac ms as ps acts known N) {i : Nat} {row old : List Int} {r : Addr} (hr : as[i]? = some r) (ho : H r = some (.lst (old.map V.int))) :
    WAt H0 (upd H r (.lst (row.map V.int))) t g m kn ac ms as ps acts (known.set i row) N := by
  have mr := List.mem_of_getElem? hr
  have q := W.apart r mr
  simp only [List.mem_cons, List.not_mem_nil, or_false, not_or] at q
  have e : as = as.set i r := by
    obtain ⟨hl, he⟩ := List.getElem?_eq_some_iff.mp hr
    rw [← he, List.set_getElem_self]
  refine { W with
    hkn := (upd_ne fun e => q.2.2.1 e.symm).trans W.hkn, hac := (upd_ne fun e => q.2.2.2.1 e.symm).trans W.hac, hm := (upd_ne fun e => q.2.2.2.2 e.symm).trans W.hm, rows := ?_,
    acts := W.acts.keep (S := [r]) (.set ho (by simp)), T := W.T.over (by simp [q]), kp := W.kp.over (W.frows r mr) }
  -- all other rows stand at other places
  have all : ∀ {bs : List Addr} {ks : List (List Int)} {i : Nat}, bs[i]? = some r → bs.Nodup → RowsAt H bs ks → RowsAt (upd H r (.lst (row.map V.int))) bs (ks.set i row) := by
    intro bs
    induction bs with
    | nil =>
      intro ks i h
      simp at h
    | cons b bs ih =>
      intro ks i h nd p
      rw [List.nodup_cons] at nd
      cases p with
      | cons p1 p2 =>
        cases i with
        | zero =>
          simp at h
          subst h
          refine .cons upd_same (paired_imp_ne (fun (a : Addr) => a ≠ b) p2 (fun a ma e => nd.1 (e ▸ ma)) fun x y nx e => (upd_ne nx).trans e)
        | succ i =>
          have h : bs[i]? = some r := by simpa using h
          have nb : b ≠ r := fun e => nd.1 (e ▸ List.mem_of_getElem? h)
          exact .cons ((upd_ne nb).trans p1) (ih h nd.2 p2)
  exact all hr W.nd W.rows
/-- acts.append(..) -/
theorem WAt.app (W : WAt H0 H t g m kn ac ms as ps acts known N) {p : Addr} {a : Act} (ha : ActAt H p a) : WAt H0 (upd H ac (.lst (ps.map V.ref ++ [.ref p]))) t g m kn ac ms as (ps ++ [p]) (acts ++ [a]) known N := by
  have n1 := W.nkn
  have n2 := W.nac
  simp only [List.mem_cons, List.not_mem_nil, or_false, not_or] at n1 n2
  have k : Kp [ac] H (upd H ac (.lst (ps.map V.ref ++ [.ref p]))) := .set W.hac (by simp)
  refine { W with hkn := (upd_ne n1.2.2.1).trans W.hkn, hac := ?_, hm := (upd_ne fun e => n2.2.2 e.symm).trans W.hm, rows := ?_, acts := paired_snoc (W.acts.keep k) (ha.keep k), T := W.T.over (by simp [n2]), kp := W.kp.over W.fac }
  · rw [upd_same, List.map_append]
    rfl
  · refine W.rows.keep k fun a h => ?_
    have q := W.apart a h
    simp only [List.mem_cons, List.not_mem_nil, or_false, not_or] at q ⊢
    exact q.2.2.2.1
end
def spWorld : Sp := fun vs H Q _ => ∃ (t g : Addr) (N : Nat) (most : Int), vs = [.ref t, .int most] ∧ TrayAt H t g N ∧ 0 ≤ most ∧ most ≤ 1000 ∧ N < 2 ^ 59 ∧
  ∀ (H' : Hp) (r ac : Addr) (ps : List Addr) (many : Nat) (acts : List Act) (known : List (List Int)), 1 ≤ many → many ≤ 6 → (acts.length : Int) ≤ most → Wd many acts known → H r = none → H ac = none → r ∉ [t, g, ac] → ac ∉ [t, g] →
    H' r = some (.lst [.int many, .ref ac]) → H' ac = some (.lst (ps.map V.ref)) → ActsAt H' ps acts → TrayAt H' t g (N + 100 + 20 * most.toNat) → Kp [t, g] H H' → Q (.ref r) H'
def spMost : Sp := fun vs H Q _ => ∃ (t g : Addr) (N : Nat), vs = [.ref t] ∧ TrayAt H t g N ∧ N < 2 ^ 59 ∧
  ∀ (H' : Hp) (k : Int), 0 ≤ k → k ≤ 110 → TrayAt H' t g (N + 1) → Kp [t, g] H H' → Q (.int k) H'
end FR
namespace FR
open PySem PySem.Spec PyProof.Rows L2
theorem ixN_of {n : Nat} {z : Int} {j : Nat} (e : z = (j : Int)) (h : j < n) : ixN n z = some j := by
  subst e
  unfold ixN
  rw [if_pos (by omega), if_pos (by omega)]
  simp
theorem rep_zero (n : Nat) : (List.replicate n ([V.int 0] : List V)).flatten = (List.replicate n (0 : Int)).map V.int := by
  induction n with
  | zero => rfl
  | succ n ih => rw [List.replicate_succ, List.flatten_cons, ih, List.replicate_succ, List.map_cons]; rfl
theorem ints_at {l : List Int} {i : Nat} {c : Int} (h : l[i]? = some c) : (l.map V.int)[i]? = some (.int c) := by
  rw [List.getElem?_map, h]
  rfl
theorem get_some {α : Type} {l : List α} {i : Nat} (h : i < l.length) : ∃ x, l[i]? = some x := ⟨l[i], List.getElem?_eq_getElem h⟩
theorem zip_take {f : Int → Int → Int} {r s : List Int} {i : Nat} {x y : Int} (h1 : r[i]? = some x) (h2 : s[i]? = some y) : (List.zipWith f r s).take (i + 1) = (List.zipWith f r s).take i ++ [f x y] := by
  rw [List.take_add_one, List.getElem?_zipWith, h1, h2]
  rfl
end FR
namespace FR
open PySem PySem.Spec PyProof.Rows L2
/-! ### two values alike, down to a depth -/
def plainV : V → Bool
  | .non => true
  | .bl _ => true
  | .int _ => true
  | .str _ => true
  | _ => false
def Al (H : Hp) : Nat → V → V → Prop
  | 0, _, _ => False
  | n + 1, x, y => (x = y ∧ plainV x = true) ∨ ∃ (a b : Addr) (xs ys : List V), x = .ref a ∧ y = .ref b ∧ ((H a = some (.lst xs) ∧ H b = some (.lst ys)) ∨ (H a = some (.tup xs) ∧ H b = some (.tup ys))) ∧ xs.length = ys.length ∧ xs.length ≤ 1000 ∧
      ∀ (i : Nat) (u v : V), xs[i]? = some u → ys[i]? = some v → Al H n u v
theorem Al.same {H H' : Hp} (s : Same H H') : ∀ {n : Nat} {x y : V}, Al H n x y → Al H' n x y
  | 0, _, _, h => h.elim
  | n + 1, x, y, h => by
    rcases h with h | ⟨a, b, xs, ys, e1, e2, h, hl, hn, f⟩
    · exact .inl h
    · refine .inr ⟨a, b, xs, ys, e1, e2, ?_, hl, hn, fun i u v h1 h2 => (f i u v h1 h2).same s⟩
      rcases h with ⟨h1, h2⟩ | ⟨h1, h2⟩
      · exact .inl ⟨s _ _ h1, s _ _ h2⟩
      · exact .inr ⟨s _ _ h1, s _ _ h2⟩
theorem Al.flat {H : Hp} {n : Nat} {x : V} (h : plainV x = true) : Al H (n + 1) x x := .inl ⟨rfl, h⟩
/-- by the lists' items one behind the other -/
theorem Al.list {H : Hp} {n : Nat} {a b : Addr} {xs ys : List V} (h1 : H a = some (.lst xs)) (h2 : H b = some (.lst ys)) (hn : xs.length ≤ 1000) (p : Paired (Al H n) xs ys) : Al H (n + 1) (.ref a) (.ref b) :=
  .inr ⟨a, b, xs, ys, rfl, rfl, .inl ⟨h1, h2⟩, paired_len p, hn, fun i u v e1 e2 => by
    obtain ⟨z, e3, q⟩ := paired_at p e1
    rw [e2] at e3
    cases e3
    exact q⟩
theorem Al.tup {H : Hp} {n : Nat} {a b : Addr} {xs ys : List V} (h1 : H a = some (.tup xs)) (h2 : H b = some (.tup ys)) (hn : xs.length ≤ 1000) (p : Paired (Al H n) xs ys) : Al H (n + 1) (.ref a) (.ref b) :=
  .inr ⟨a, b, xs, ys, rfl, rfl, .inr ⟨h1, h2⟩, paired_len p, hn, fun i u v e1 e2 => by
    obtain ⟨z, e3, q⟩ := paired_at p e1
    rw [e2] at e3
    cases e3
    exact q⟩
def spAlike (n : Nat) : Sp := fun vs H Q _ => ∃ (x y : V), vs = [x, y] ∧ Al H n x y ∧ ∀ H' : Hp, Same H H' → Q (.bl true) H'
end FR
namespace FR
open PySem PySem.Spec PyProof.Rows L2
/-! ### deeds as data -/
def What.data : What → List PyData
  | .give p k m => [.str "give", .str p, .str k, .int m]
  | .take p k m => [.str "take", .str p, .str k, .int m]
  | .use p v => [.str "use", .str p, .str v]
def Act.data (a : Act) : PyData := .tuple [.int a.who, .int a.num, .tuple (a.note.map PyData.int), .tuple a.what.data]
theorem What.dp {K : PySem.W.Frag} {H : Hp} : ∀ w : What, DpAll K H w.vs w.data
  | .give _ _ _ => .cons (.str _) (.cons (.str _) (.cons (.str _) (.cons (.int _) .nil)))
  | .take _ _ _ => .cons (.str _) (.cons (.str _) (.cons (.str _) (.cons (.int _) .nil)))
  | .use _ _ => .cons (.str _) (.cons (.str _) (.cons (.str _) .nil))
theorem ActAt.dp {K : PySem.W.Frag} {H : Hp} {p : Addr} {a : Act} (h : ActAt H p a) : Dp K H (.ref p) a.data := by
  obtain ⟨n, q, h1, h2, h3⟩ := h
  exact .tup (sqT h1) (.cons (.int _) (.cons (.int _) (.cons (.tup (sqT h2) (dpInts _)) (.cons (.tup (sqT h3) a.what.dp) .nil))))
theorem word_str {s : Str} (h : WordOk s) : PyData.strOk s = true := by
  show s.cps.all (· < 0x110000) = true
  rw [Array.all_eq_true]
  intro i hi
  have q := h.2.2 s.cps[i] (by show s.cps[i] ∈ s.cps.toList; simp)
  exact decide_eq_true (by omega)
theorem kind_str {s : Str} (h : KindOk s) : PyData.strOk s = true := by rcases h with rfl | rfl <;> decide +kernel
/-- its texts are words -/
def What.Fit : What → Prop
  | .give p k _ => WordOk p ∧ KindOk k
  | .take p k _ => WordOk p ∧ KindOk k
  | .use p v => WordOk p ∧ WordOk v
theorem What.Ok.fit {who many : Int} : ∀ {w : What}, w.Ok who many → w.Fit
  | .give _ _ _, h => ⟨h.1, h.2.1⟩
  | .take _ _ _, h => ⟨h.1, h.2.1⟩
  | .use _ _, h => h
theorem What.lay {w : What} (h : w.Fit) : PyData.canLayAll0 w.data = true := by
  have e1 : PyData.strOk "give" = true := by decide +kernel
  have e2 : PyData.strOk "take" = true := by decide +kernel
  have e3 : PyData.strOk "use" = true := by decide +kernel
  cases w with
  | give p k m => simp [What.data, PyData.canLayAll0, PyData.canLay0, e1, word_str h.1, kind_str h.2]
  | take p k m => simp [What.data, PyData.canLayAll0, PyData.canLay0, e2, word_str h.1, kind_str h.2]
  | use p v => simp [What.data, PyData.canLayAll0, PyData.canLay0, e3, word_str h.1, word_str h.2]
theorem What.deep (w : What) : PyData.depthAll w.data ≤ 1 := by cases w <;> simp [What.data, PyData.depthAll, PyData.depth]
theorem Act.shaped {a : Act} (hf : a.what.Fit) : SeqAt.shaped a.data = true := by
  have h1 := PySem.W.canLayAll0_ints a.note
  have h2 := PySem.W.depthAll_ints a.note
  have h3 := What.lay hf
  have h4 := a.what.deep
  unfold SeqAt.shaped Act.data
  rw [Bool.and_eq_true]
  refine ⟨?_, decide_eq_true ?_⟩
  · simp only [PyData.canLay0, PyData.canLayAll0, h1, h3, Bool.and_self]
  · simp only [PyData.depth, PyData.depthAll]
    omega
theorem Act.eqv {a : Act} (hf : a.what.Fit) : PyData.eqv a.data a.data = true := SeqAt.eqv_refl _ (SeqAt.canLay_of_shaped (Act.shaped hf))
theorem two_shaped (i j : Int) : SeqAt.shaped (.tuple [.int i, .int j]) = true := by
  unfold SeqAt.shaped
  simp [PyData.canLay0, PyData.canLayAll0, PyData.depth, PyData.depthAll]
theorem two_eqv (i j : Int) : PyData.eqv (.tuple [.int i, .int j]) (.tuple [.int i, .int j]) = true := SeqAt.eqv_refl _ (SeqAt.canLay_of_shaped (two_shaped i j))
/-- whether a deed has seen that of a mark -/
def Act.seen (a : Act) (o k : Int) : Bool := decide (0 ≤ o) && decide (o < (a.note.length : Int)) && (decide (1 ≤ k) && decide (k ≤ a.note.getD o.toNat 0))
def spMark : Sp := fun vs H Q _ => ∃ (p : Addr) (a : Act), vs = [.ref p] ∧ ActAt H p a ∧ ∀ (q : Addr) (H' : Hp), Same H H' → H q = none → H' q = some (.tup [.int a.who, .int a.num]) → Q (.ref q) H'
def spSize : Sp := fun vs H Q _ => ∃ (p : Addr) (a : Act), vs = [.ref p] ∧ ActAt H p a ∧ Q (.int a.note.sum) H
def spSeen : Sp := fun vs H Q _ => ∃ (p m : Addr) (a : Act) (o k : Int), vs = [.ref p, .ref m] ∧ ActAt H p a ∧ H m = some (.tup [.int o, .int k]) ∧ Q (.bl (a.seen o k)) H
end FR
namespace FR
open PySem PySem.Spec PyProof.Rows L2
theorem zipWith_nonneg : ∀ {r s : List Int}, (∀ x ∈ r, 0 ≤ x) → (∀ x ∈ s, 0 ≤ x) → ∀ x ∈ List.zipWith max r s, 0 ≤ x
  | [], _, _, _, x, h => by simp at h
  | _ :: _, [], _, _, x, h => by simp at h
  | a :: r, b :: s, hr, hs, x, h => by
    rw [List.zipWith_cons_cons, List.mem_cons] at h
    rcases h with rfl | h
    · have := hr a (List.mem_cons_self ..)
      omega
    · exact zipWith_nonneg (fun y m => hr y (List.mem_cons_of_mem _ m)) (fun y m => hs y (List.mem_cons_of_mem _ m)) x h
theorem Wd.nonneg {many : Nat} {acts : List Act} {known : List (List Int)} (h : Wd many acts known) : ∀ r ∈ known, ∀ x ∈ r, 0 ≤ x := by
  induction h with
  | nil =>
    intro r m x mx
    rw [(List.mem_replicate.mp m).2] at mx
    rw [(List.mem_replicate.mp mx).2]
    exact Int.le_refl 0
  | @step acts known i row row' c wt w hi hr hc ok ih =>
    have h' : ∀ x ∈ row', 0 ≤ x := by
      rcases hr with rfl | ⟨j, ro, hj, rfl⟩
      · exact ih _ (List.mem_of_getElem? hi)
      · exact zipWith_nonneg (ih _ (List.mem_of_getElem? hi)) (ih _ (List.mem_of_getElem? hj))
    intro r m x mx
    rcases List.mem_or_eq_of_mem_set m with m | rfl
    · exact ih r m x mx
    · rcases List.mem_or_eq_of_mem_set mx with mx | rfl
      · exact h' x mx
      · have := h' c (List.mem_of_getElem? hc)
        omega
/-- what is plain of every deed of a world -/
theorem Wd.plain {many : Nat} {acts : List Act} {known : List (List Int)} (h : Wd many acts known) : ∀ a ∈ acts, a.note.length = many ∧ (∀ x ∈ a.note, 0 ≤ x) ∧ a.what.Fit := by
  induction h with
  | nil => intro a m; cases m
  | @step acts known i row row' c wt w hi hr hc ok ih =>
    intro a m
    rcases List.mem_append.mp m with m | m
    · exact ih a m
    · rw [List.mem_singleton.mp m]
      have hl := w.lens.2
      have hn := w.nonneg
      refine ⟨?_, ?_, What.Ok.fit ok⟩
      · rcases hr with rfl | ⟨j, ro, hj, rfl⟩
        · exact hl _ (List.mem_of_getElem? hi)
        · show (List.zipWith max row ro).length = many
          rw [List.length_zipWith, hl _ (List.mem_of_getElem? hi), hl _ (List.mem_of_getElem? hj), Nat.min_self]
      · rcases hr with rfl | ⟨j, ro, hj, rfl⟩
        · exact hn _ (List.mem_of_getElem? hi)
        · exact zipWith_nonneg (hn _ (List.mem_of_getElem? hi)) (hn _ (List.mem_of_getElem? hj))
theorem cut_take (xs : List V) (k : Nat) : cutV xs none (some (k : Int)) = xs.take k := by
  unfold cutV
  rw [HT.sIx_none, HT.sIx_nat, List.drop_zero, Nat.sub_zero]
  by_cases h : k ≤ xs.length
  · rw [Nat.min_eq_left h]
  · rw [Nat.min_eq_right (by omega), List.take_length, List.take_of_length_le (by omega)]
def spLaw (K : PySem.W.Frag) : Sp := fun vs H Q _ => ∃ (a : Addr) (ns : List Int), vs = [.ref a] ∧ SqL K H a (ns.map V.int) ∧ ns.length ≤ 63 ∧ ∀ H', Q (.bl true) H'
end FR

/-! Rules of calls that the proofs need beside the layer's: sum and min of a tuple of ints, set of a list of ints. -/
namespace FR
open PySem PySem.Spec PyProof.Rows L2
theorem pre_take (ns : List Int) : ∀ j, preSum (fun i => ns.getD i 0) j = (ns.take j).sum
  | 0 => by
    rw [List.take_zero]
    rfl
  | j + 1 => by
    have ih := pre_take ns j
    show preSum (fun i => ns.getD i 0) j + ns.getD j 0 = (ns.take (j + 1)).sum
    rw [ih, List.take_add_one]
    cases e : ns[j]? with
    | none => simp [List.getD, e]
    | some z => simp [List.getD, e]
section
variable {prog : Program} {w : World} {A : Around} {E : Value → Shared → Prop} {s : Shared} {l : Addr} {its : List Value} {ns : List Int}
/-- what an iterator over a tuple is at its start -/
theorem tup_start (hl : IsTup s.heap l its.toArray) {Q : Value → Shared → Prop}
    (h : ∀ hp : Heap, hp = s.heap.push { cls := .type "tuple_iterator", data := .fields #[.ref l, .int 0 0] } → l ≠ s.heap.objs.size → hp.IsTupleIter s.heap.objs.size l 0 → hp.IsTuple l its.toArray →
      (∀ b ∈ [s.heap.objs.size, l], b < hp.objs.size) → Q (.ref s.heap.objs.size) { s with heap := hp }) : wpAny (model prog w) A (pyIter (.ref l)) Q E s := by
  have lt : l < s.heap.objs.size := by
    obtain ⟨o, e, r⟩ := hl
    exact Heap.lt_size e
  refine wpAny_pyIter_tuple hl (h _ rfl (Nat.ne_of_lt lt) ⟨_, Heap.get?_push_size _ rfl, rfl, rfl⟩ (Heap.IsTuple.push hl _) fun b mb => ?_)
  have sz : (s.heap.push { cls := .type "tuple_iterator", data := .fields #[.ref l, .int 0 0] }).objs.size = s.heap.objs.size + 1 := Heap.size_push ..
  simp only [List.mem_cons, List.not_mem_nil, or_false] at mb
  rw [sz]
  rcases mb with rfl | rfl
  · exact Nat.lt_succ_self _
  · exact Nat.lt_succ_of_lt lt
theorem kept_push {hp : Heap} {o : Obj} (hk : ∀ b u, b ∉ [s.heap.objs.size] → (s.heap.push o).get? b = some u → hp.get? b = some u) : ∀ b u, s.heap.get? b = some u → hp.get? b = some u := fun b u e => by
  have lt := Heap.lt_size e
  refine hk b u ?_ (Heap.get?_push_of_some _ e)
  simp only [List.mem_cons, List.not_mem_nil, or_false]
  exact Nat.ne_of_lt lt
theorem tup_val (hi : IntsAre its ns) : ∀ (i : Nat) (v : Value), its.toArray[i]? = some v → ∃ t, v = .int (ns.getD i 0) t := fun i v e =>
  PyProof.Rows.IntsAre.int_at hi i v (by simpa using e)
theorem sum_tup {Q : Value → Shared → Prop} (hh : A.handled = none) (hl : IsTup s.heap l its.toArray) (hi : IntsAre its ns)
    (h : ∀ hp tk t', (∀ b o, s.heap.get? b = some o → hp.get? b = some o) → Q (.int ns.sum t') { s with heap := hp, toks := tk }) : wpAny (model prog w) A (call (.builtin "sum") [.ref l]) Q E s := by
  refine call_sum_walkG (tup_start hl fun hp ep ne st0 st1 hf => ?_)
  subst ep
  refine ⟨_, _, _, _, _, _, fun i => ns.getD i 0, rfl, Walks.tuple (A := A.in1) (by simpa using hh) s.heap.objs.size l ne its.toArray, ⟨st0, st1⟩, hf, tup_val hi, fun h2 tk t' hk => ?_⟩
  have e : preSum (fun i => ns.getD i 0) its.toArray.size = ns.sum := by
    rw [pre_take, List.take_of_length_le]
    have q := IntsAre.length hi
    simp
    omega
  rw [e]
  exact h h2 tk t' (kept_push hk)
theorem min_tup {Q : Value → Shared → Prop} (hh : A.handled = none) (hl : IsTup s.heap l its.toArray) (hi : IntsAre its ns) (hne : 0 < ns.length)
    (h : ∀ hp tk m t', (∀ b o, s.heap.get? b = some o → hp.get? b = some o) → m ∈ ns → (∀ a, a ∈ ns → m ≤ a) → Q (.int m t') { s with heap := hp, toks := tk }) : wpAny (model prog w) A (call (.builtin "min") [.ref l]) Q E s := by
  have hlen := IntsAre.length hi
  refine call_min_walk (tup_start hl fun hp ep ne st0 st1 hf => ?_)
  subst ep
  refine ⟨_, _, _, _, _, _, _, rfl, Walks.tuple (A := A.in1) (by simpa using hh) s.heap.objs.size l ne its.toArray, ⟨st0, st1⟩, hf, by simp; omega, CmpOf.ints_lt (fun i => ns.getD i 0) (tup_val hi), fun v h2 tk hv hk => ?_⟩
  obtain ⟨t, rfl⟩ := tup_val hi _ _ hv
  obtain ⟨b1, b2⟩ := argBest_lt (fun i => ns.getD i 0) (its.toArray.size - 1)
  have sz : its.toArray.size = ns.length := by simp; omega
  refine h h2 tk _ t (kept_push hk) ?_ fun a ma => ?_
  · exact PySem.getD_mem (by omega)
  · obtain ⟨j, hj, rfl⟩ := List.mem_iff_getElem.mp ma
    have q := b2 j (by omega)
    rw [show ns[j] = ns.getD j 0 by simp [List.getD, hj]]
    exact q
end
section
variable {X : Cx}
theorem cr_sumT (hc : X.calm = true) : CallR X (.builtin "sum") (fun vs H Q => ∃ (a : Addr) (ns : List Int), vs = [V.ref a] ∧ SqT X.K H a (ns.map V.int) ∧ Q (.int ns.sum) H) := by
  intro pins s σ H vs us Q I r h
  obtain ⟨a, ns, rfl, hs, q⟩ := h
  obtain ⟨its, rv, hl, hz⟩ := I.tuple hs
  rw [Vals.ref1 r]
  exact sum_tup (I.ok.hd hc) hl rv.ints fun hp tk t' hk => ⟨.int _, H, I.kept hk, ⟨_, rfl⟩, q⟩
theorem cr_minT (hc : X.calm = true) : CallR X (.builtin "min") (fun vs H Q => ∃ (a : Addr) (ns : List Int), vs = [V.ref a] ∧ SqT X.K H a (ns.map V.int) ∧ 0 < ns.length ∧ ∀ m, m ∈ ns → (∀ y, y ∈ ns → m ≤ y) → Q (.int m) H) := by
  intro pins s σ H vs us Q I r h
  obtain ⟨a, ns, rfl, hs, hne, q⟩ := h
  obtain ⟨its, rv, hl, hz⟩ := I.tuple hs
  rw [Vals.ref1 r]
  exact min_tup (I.ok.hd hc) hl rv.ints hne fun hp tk m t' hk h1 h2 => ⟨.int _, H, I.kept hk, ⟨_, rfl⟩, q m h1 h2⟩
end
section
variable {X : Cx} {CX : CXT} {k n : Nat} {f : Addr} {fd : FuncData} {ps ks : List Str} {sp : Sp} {E : XK} {x : Str} {p pos : Pos} {kws : List Keyword} {tk : TA} {g : List Value → List Value → List Value} {gV : List V → List V → List V}
/-- f(k = v, ..): keywords alone -/
theorem pe_callKw (F : FnOk X.prog X.w X.K X.mg X.base CX k f fd ps sp) (hr : Room k X.A) (hg : Gl X x) (hm : X.mg x = some (.ref f)) (hk : PySem.W.keepIn X.K (.ref f) = true) (hb : KBn X.K fd ps 0 ks g gV) (hx : Passes CX X E) (hkw : PK X kws tk)
    (hall : (backToKw pos (keywordEach kws X.env)).all (·.1.isSome) = true := by rfl) (hks : (backToKw pos (keywordEach kws X.env)).filterMap (·.1) = ks := by rfl) (hdb : (x == ("__debug__" : Str)) = false := by decide)
    (hpl : ((backTo pos (starEach [] X.env)).any (·.1) || (backToKw pos (keywordEach kws X.env)).any (·.1.isNone)) = false := by rfl) : PE X (.Call (.Name x p) [] kws pos) (tCallN 0 ks.length sp gV E tNil tk) := by
  constructor
  intro pins s σ H Q I h
  refine wpAny_Call_Name_kw (ld_glob I hg hm (PySem.W.callWith_KW0 (h₀ := X.base) I.ok.mod.kin hk hall (thn (hkw.run pos pins s σ H _ I h) fun ws s2 ⟨zs, H2, I2, rz, l1, l2, q2⟩ => ⟨I2.kIn, ?_⟩) hpl) hdb)
  rw [hks]
  exact run_fnN (us := []) (vs := []) F hr hb hx I2 .nil rz rfl l2 q2
/-- how such a call binds, for a def without defaults -/
theorem kbn_of {K : PySem.W.Frag} {nm qual : Str} {st : Stmt} (F : Fun K nm qual st f fd) (n : Nat)
    (h : ∀ (kV doc pm : Value) (an : Option Addr) (cdv ct : Value) (us ws : List Value), us.length = n → ws.length = ks.length → bindArgs (PySem.W.fnOf nm qual (defArgs st) (defBody st) (defScope st) .none kV doc pm an cdv ct) ⟨us, ks.zip ws⟩ = pure (ps.zip (g us ws)))
    (hrel : ∀ {vs : List V} {us : List Value} {zs : List V} {ws : List Value}, Vals vs us → Vals zs ws → Vals (gV vs zs) (g us ws)) : KBn K fd ps n ks g gV := by
  obtain ⟨oc, od, kV, doc, pm, an, cdv, ct, osl, rfl, lk, hcd⟩ := F.ex
  exact ⟨fun s us ws _ l1 l2 => .of_eq (h kV doc pm an cdv ct us ws l1 l2), hrel⟩
def swap2 {α : Type} : List α → List α → List α
  | _, [m, d] => [d, m]
  | _, _ => []
theorem swap2_rel {vs : List V} {us : List Value} {zs : List V} {ws : List Value} (_ : Vals vs us) (r : Vals zs ws) : Vals (swap2 vs zs) (swap2 us ws) := by
  cases r with
  | nil => exact .nil
  | cons a t => cases t with
    | nil => exact .nil
    | cons b t => cases t with
      | nil => exact .cons b (.cons a .nil)
      | cons c t => exact .nil
def kwsOnly {α : Type} (_ ws : List α) : List α := ws
theorem kwsOnly_rel {vs : List V} {us : List Value} {zs : List V} {ws : List Value} (_ : Vals vs us) (r : Vals zs ws) : Vals (kwsOnly vs zs) (kwsOnly us ws) := r
end
end FR

/-! set(xs) of a list of ints, as the layer's sets of ints. -/
namespace FR
open PySem PySem.Spec PyProof.Rows L2
/-- the object that a set is made of, still without members -/
abbrev bare (w : World) : Obj := { cls := .type "set", dict := none, data := .set #[] 0 (.fresh 0 0 (!w.params.followText "set-order")) }
section
variable {P : Program} {w : World} {A : Around} {E : Value → Shared → Prop} {s : Shared}
set_option maxHeartbeats 3200000 in
theorem set_of_list {l : Addr} {vs : Array Value} (ns : List Int) {Q : Value → Shared → Prop} (calm : A.handled = none) (isl : s.heap.IsList l vs) (whole : IntsAre vs.toList ns) (room : ns.length + 1 < scanBound)
    (out : ∀ (hp : Heap) (tk c : Nat), SetR w hp s.heap.objs.size (fun j => decide (j ∈ ns)) c → c ≤ ns.length → (∀ b u, s.heap.get? b = some u → hp.get? b = some u) → Q (.ref s.heap.objs.size) { s with heap := hp, toks := tk }) :
    wpAny (model P w) A (call (.type "set") [.ref l]) Q E s := by
  have many : vs.size = ns.length := by
    have e := IntsAre.length whole
    simpa using e
  obtain ⟨_, _, mro⟩ := F.called_set.mro
  have made := F.called_set.made
  have sub := F.called_set.sub
  have notType := F.called_set.notType
  have canCreate := F.called_set.canCreate
  have once := F.typeCall_set_1 (.ref l)
  refine wpAny_call (codeAny_of_tree ?_)
  show wpAny _ _ (callAny (.type "set") _) _ _ _
  refine wpAny_pure ⟨Code.quiet_builtin _ (by decide +kernel), codeAny_builtin F.entry_type_call ?_⟩
  rw [Around.under_plain (weight_type_call_type "set" [.ref l] []) rfl]
  repeat (any_goals (first | assumption | wp_step))
  refine codeAny_mono (code_set_led1 (.ref l) (E := E) (Q₁ := fun x t => x = .ref s.heap.objs.size ∧ t = { s with heap := s.heap.push (bare w) }) ⟨rfl, rfl⟩) fun r t hr => ?_
  cases r with
  | error e => exact hr
  | ok fl => cases fl with
    | next => exact hr.elim
    | brk => exact hr.elim
    | cont => exact hr.elim
    | ret x =>
      obtain ⟨rfl, rfl⟩ := hr
      have there : (s.heap.push (bare w)).get? s.heap.objs.size = some (bare w) := Heap.get?_push_size _ rfl
      have typed : Shared.TypeIs { s with heap := s.heap.push (bare w) } (.ref s.heap.objs.size) "set" := ⟨_, there, rfl⟩
      have look1 := F.called_set.init.lookup
      have bind1 := F.called_set.init.bind (.ref s.heap.objs.size)
      repeat (any_goals (first | assumption | wp_step))
      refine codeAny_mono (codeAny_call_builtin (R := wants (fun r t => r = .none ∧ ∃ hp tk c, t = { s with heap := hp, toks := tk } ∧ SetR w hp s.heap.objs.size (fun j => decide (j ∈ ns)) c ∧ c ≤ ns.length ∧ (∀ b u, s.heap.get? b = some u → hp.get? b = some u)) E)
        F.called_set.init.plain F.entry_set_init (check_set_init_1 typed ?_)) fun r2 t2 hr2 => ?_
      · obtain ⟨⟨oc, od, odt, osl⟩, ho, hcl, n0, hdt⟩ := isl
        simp only at hcl hdt
        subst hcl
        subst hdt
        have lt : l < s.heap.objs.size := Heap.lt_size ho
        have isl1 : (s.heap.push (bare w)).IsList l vs := ⟨_, Heap.get?_push_of_some _ ho, rfl, n0, rfl⟩
        have ho1 : (s.heap.push (bare w)).get? l = some { cls := .type "list", dict := od, data := .seq vs n0, slots := osl } := Heap.get?_push_of_some _ ho
        have notSet := F.sub_list_set
        have notFrozen := F.sub_list_frozenset
        have notDict : (Value.type "list" == Value.type "dict") = false := by decide
        unfold Builtin.«set.__init__» noKeywords Builtin.Frozenset.updateFrom
        generalize hI : pyIter = I
        wp_walk
        subst hI
        refine wpAny_pyIter_list isl1 ?_
        refine wpAny_bind (wpAny_runValue ?_)
        have sz : (s.heap.push (bare w)).objs.size = s.heap.objs.size + 1 := Heap.size_push ..
        have at_ : ∀ (i : Nat) (v : Value), vs[i]? = some v → ∃ k t, ns[i]? = some k ∧ v = .int k t := fun i v hv => by
          have hi : i < ns.length := many ▸ (Array.getElem?_eq_some_iff.mp hv).1
          obtain ⟨t, e⟩ := PyProof.Rows.IntsAre.int_at whole i v (by rw [Array.getElem?_toList]; exact hv)
          refine ⟨ns[i], t, List.getElem?_eq_getElem hi, ?_⟩
          rw [e]
          simp [List.getD, hi]
        have calm3 : A.in1.in1.in1.handled = none := by simp [calm]
        have apart : l ≠ (s.heap.push (bare w)).objs.size := by
          rw [sz]
          exact Nat.ne_of_lt (Nat.lt_succ_of_lt lt)
        refine set_update_ints ((Walks.list calm3 _ l apart vs).toS) s.heap.objs.size ?_ ns many room at_ (vs.size - 0) 0 _ (by omega) (Nat.zero_le _) ⟨⟨_, Heap.get?_push_size _ rfl, rfl, rfl⟩, (isl1.push _)⟩ ⟨0, Nat.le_refl 0, setR_new_at (Heap.get?_push_of_some _ there)⟩ ?_
        · rw [sz]
          simp only [List.mem_cons, List.not_mem_nil, or_false, not_or]
          exact ⟨Nat.ne_of_lt (Nat.lt_succ_self _), Nat.ne_of_gt lt⟩
        · intro s' c' hm hc' hS'
          obtain ⟨h', g2, d', tk', os'⟩ := s'
          have eg : g2 = s.gens := hm.gens
          have ed : d' = s.drawn := hm.drawn
          have eo : os' = s.os := hm.os
          subst eg
          subst ed
          subst eo
          show wpAny _ _ _ _ _ _
          refine wpAny_pure ?_
          show wpAny _ _ (ret Value.none) _ _ _
          refine wpAny_pure ⟨rfl, h', tk', c', rfl, hS', many ▸ hc', fun b u e => ?_⟩
          have b0 : b < s.heap.objs.size := Heap.lt_size e
          refine hm.heap b u ?_ (Heap.get?_push_of_some _ (Heap.get?_push_of_some _ e))
          rw [sz]
          simp only [List.mem_cons, List.not_mem_nil, or_false, not_or]
          exact ⟨Nat.ne_of_lt b0, Nat.ne_of_lt (Nat.lt_succ_of_lt b0)⟩
      · cases r2 with
        | error e => exact hr2
        | ok fl2 => cases fl2 with
          | next => exact hr2.elim
          | brk => exact hr2.elim
          | cont => exact hr2.elim
          | ret x2 =>
            obtain ⟨rfl, h', tk, c', rfl, hS', hc', hk'⟩ := hr2
            repeat (any_goals (first | assumption | wp_step))
            exact out _ _ _ hS' hc' hk'
end
end FR

namespace FR
open PySem PySem.Spec PyProof.Rows L2
section
variable {X : Cx}
theorem cr_setL (hc : X.calm = true) : CallR X (.type "set") (fun vs H Q => ∃ (a : Addr) (ns : List Int), vs = [V.ref a] ∧ SqL X.K H a (ns.map V.int) ∧ ns.length + 1 < scanBound ∧
    ∀ (p : Addr) (c : Nat), H p = none → c ≤ ns.length → Q (.ref p) (upd H p (SetO X.w p (fun j => decide (j ∈ ns)) c))) := by
  intro pins s σ H vs us Q I r h
  obtain ⟨a, ns, rfl, hs, hb, q⟩ := h
  obtain ⟨its, rv, hl, hz⟩ := I.list hs
  rw [Vals.ref1 r]
  refine set_of_list ns (I.ok.hd hc) hl.isList (by simpa using rv.ints) hb fun hp tk c new hc' hk => ?_
  exact ⟨.ref _, upd H s.heap.objs.size (SetO X.w s.heap.objs.size (fun j => decide (j ∈ ns)) c), I.laid (t' := tk) hk (Nat.le_refl _) (setO_new new), rfl, q _ _ (I.hok.fresh (Nat.le_refl _)) hc'⟩
end
end FR

namespace FR
open PySem PySem.Spec PyProof.Rows L2
def top (i : Nat) : Stmt := PySem.Challenge.pw_firmroll_k02_marks_sizes_and_what_was_se.main.body.getD i (.Pass ⟨0, 0, 0, 0⟩)
abbrev sTray : Stmt := top 5
abbrev sDraw : Stmt := top 6
theorem m61 : (0 : Int) < 2 ^ Int.toNat 61 - 1 := by decide
theorem mod61 (z : Int) : 0 ≤ z % (2 ^ Int.toNat 61 - 1) ∧ z % (2 ^ Int.toNat 61 - 1) < 2 ^ 61 :=
  ⟨Int.emod_nonneg _ (by decide), Int.lt_of_lt_of_le (Int.emod_lt_of_pos _ m61) (by decide)⟩
section
variable {P : Program} {w : World} {K : PySem.W.Frag} {mg : Str → Option Value} {base : Heap}
theorem scTray : FnScope ["script", "fold", "great", "cell", "much"] ["script"] (defScope sTray) := ⟨rfl, rfl, rfl, by decide +kernel, rfl, by decide +kernel, by decide +kernel⟩
theorem ok_tray {f : Addr} {fd : FuncData} {k : Nat} (F : Fun K "_law_tray" "_law_tray" sTray f fd) (mx : mg "max" = none) : FnOk P w K mg base CX0 (k + 1) f fd ["script"] (spTray K) := by
  refine F.ok scTray (fun vs H Q E h => ?_) (fun cdv A outer s H vs Q E hr h => ?_)
  · obtain ⟨a, ns, rfl, _⟩ := h
    rfl
  obtain ⟨a, ns, rfl, hS, hl, q⟩ := h
  refine ⟨_, pss_cons (ps_set (i := 1) scTray.nd rfl (.inl rfl) pe_int) (pss_cons (ps_set (i := 2) scTray.nd rfl (.inl rfl) (pe_lst pa_nil))
    (pss_cons (ps_for PassesOwn.never rfl (pi_list (pv 0)) (pg_name (i := 3) scTray.nd rfl (.inl rfl))
      (pss_cons (ps_set (i := 1) scTray.nd rfl (.inl rfl) (pe_op op_mod (pe_op op_add (pe_op op_mul (pv 1) pe_int) (pv 3)) (pe_op op_sub (pe_op op_pow pe_int pe_int) pe_int)))
      (pss_cons (ps_set (i := 4) scTray.nd rfl (.inl rfl) (pe_callB (call_max2 rfl) (by rfl) mx (by decide +kernel) (pa_cons (pv 3) (pa_cons (pe_op op_sub pe_int (pv 3)) pa_nil))))
      (pss_one (ps_if (pt_cmpR op_ge (pv 4) (pe_op op_pow pe_int pe_int) (nomark _))
        (pss_one (ps_expr (pe_bm PySem.F.plainAttrs_list PySem.F.slot_list_append PySem.F.type_list_append mt_append (pv 2) (pa_cons (pe_op op_sub (pv 4) (pe_op op_pow pe_int pe_int)) pa_nil)))) pss_nil)))))
    (pss_one (ps_ret (pe_lst (pa_cons (pv 2) (pa_cons pe_int (pa_cons (pv 1) (pa_cons pe_int pa_nil))))))))), ?_⟩
  refine ⟨Nat.zero_le _, fun g ng => ?_⟩
  refine ⟨_, rfl, a, rfl, ⟨_, (same_new ng).seq hS⟩, for_list (K := K) (a := a) (xs := ns.map V.int) (fun i σ H' => ∃ (fo : Int) (gs : List Int) (v3 v4 : Option V), σ = [some (.ref a), some (.int fo), some (.ref g), v3, v4] ∧ Same H H' ∧ H' g = some (.lst (gs.map V.int)) ∧ gs.length ≤ i ∧ 0 ≤ fo ∧ fo < 2 ^ 61)
      ⟨_, [], none, none, rfl, same_new ng, upd_same, Nat.le_refl _, by decide, by decide⟩ (fun i σ H' _ ⟨_, _, _, _, _, s, _⟩ => s.seq hS) ?_ ?_⟩
  · rintro i y σ H' hi ⟨fo, gs, v3, v4, rfl, s1, hg, hgl, hf0, hf1⟩
    have hi63 : i < ns.length := by
      have q := (List.getElem?_eq_some_iff.mp hi).1
      rw [List.length_map] at q
      exact q
    obtain ⟨z, hz, rfl⟩ := map_int_at hi
    refine ⟨_, rfl, _, _, rfl, rfl, .inr ⟨by decide, by decide⟩, _, rfl, _, _, rfl, rfl, _, _, rfl, rfl, ⟨by decide, by decide, by decide⟩, _, _, rfl, rfl, _, _, rfl, rfl, m61, ?_⟩
    refine ⟨_, rfl, _, rfl, _, _, rfl, rfl, _, _, rfl, ?_⟩
    refine ⟨_, rfl, _, _, rfl, rfl, ⟨by decide, by decide, by decide⟩, _, _, rfl, rfl, _, rfl, ite2 (fun c => ?_) (fun c => ?_)⟩
    · refine ⟨_, rfl, .inl ⟨rfl, _, SqL.of hg⟩, _, rfl, _, _, rfl, rfl, ⟨by decide, by decide, by decide⟩, _, _, rfl, rfl, _, _, _, rfl, rfl, hg, ?_, ?_⟩
      · rw [List.length_map]
        exact small1000 (by omega)
      · refine ⟨_, gs ++ [(if 0 - z > z then 0 - z else z) - 10 ^ Int.toNat 18], _, _, rfl, fun b o e => ?_, ?_, ?_, (mod61 _).1, (mod61 _).2⟩
        · rw [upd_ne (ne_of_none e ng)]
          exact s1 _ _ e
        · rw [upd_same, List.map_append]
          rfl
        · rw [List.length_append, List.length_singleton]
          omega
    · exact ⟨_, gs, _, _, rfl, s1, hg, by omega, (mod61 _).1, (mod61 _).2⟩
  · rintro σ H' ⟨fo, gs, v3, v4, rfl, s1, hg, hgl, hf0, hf1⟩
    refine ⟨_, rfl, _, rfl, (by show 4 ≤ sizeLine; decide), fun t nt => ?_⟩
    refine q t g _ (s1.trans (same_new nt)) (s1.free nt) ng ⟨gs, 0, fo, 0, upd_same, ?_, hf0, hf1, by decide, by decide⟩
    exact upd_at hg nt

theorem scDraw : FnScope ["tray", "many", "found", "mixed"] ["tray", "many"] (defScope sDraw) := ⟨rfl, rfl, rfl, by decide +kernel, rfl, by decide +kernel, by decide +kernel⟩
theorem ok_draw {f : Addr} {fd : FuncData} {k : Nat} (F : Fun K "_law_draw" "_law_draw" sDraw f fd) : FnOk P w K mg base CX0 (k + 1) f fd ["tray", "many"] spDraw := by
  refine F.ok scDraw (fun vs H Q E h => ?_) (fun cdv A outer s H vs Q E hr h => ?_)
  · obtain ⟨t, g, N, many, rfl, _⟩ := h
    rfl
  obtain ⟨t, g, N, many, rfl, T, hN, hm0, hm1, q⟩ := h
  refine ⟨_, C8.pss_cut (ps_while PassesOwn.never (PW.pt (pw_and (pt_cmpR op_lt (pe_ix ix_list (pv 0) pe_int (fun _ _ => rfl)) pe_int (nomark _)) (pw_and1 (pt_cmpR (op_neD hr.units) (pe_ix ix_list (pv 0) pe_int (fun _ _ => rfl)) (pe_lst pa_nil) (nomark _)))))
      (pss_one (ps_asg (pe_bm PySem.F.plainAttrs_list PySem.F.slot_list_pop PySem.F.type_list_pop mt_popAt (pe_ix ix_list (pv 0) pe_int (fun _ _ => rfl)) (pa_cons pe_int pa_nil)) (pg_sub (pv 0) pe_int set_list))))
    (pss_cons (ps_if (pt_cmpR op_ge (pe_ix ix_list (pv 0) pe_int (fun _ _ => rfl)) pe_int (nomark _))
      (pss_cons (ps_set (i := 2) scDraw.nd rfl (.inl rfl) (pe_op op_mod (pe_ix ix_list (pv 0) pe_int (fun _ _ => rfl)) (pv 1)))
      (pss_cons (ps_asg (pe_op op_fdiv (pe_ix ix_list (pv 0) pe_int (fun _ _ => rfl)) (pv 1)) (pg_sub (pv 0) pe_int set_list))
      (pss_one (ps_ret (pv 2))))) pss_nil)
    (pss_cons (ps_asg (pe_op op_add (pe_ix ix_list (pv 0) pe_int (fun _ _ => rfl)) pe_int) (pg_sub (pv 0) pe_int set_list))
    (pss_cons (ps_set (i := 3) scDraw.nd rfl (.inl rfl) (pe_op op_mod
        (pe_op op_add (pe_op op_mul (pe_op op_add (pe_ix ix_list (pv 0) pe_int (fun _ _ => rfl)) pe_int) (pe_op op_pow (pe_op op_add (pe_ix ix_list (pv 0) pe_int (fun _ _ => rfl)) pe_int) pe_int)) (pe_op op_mul pe_int (pe_ix ix_list (pv 0) pe_int (fun _ _ => rfl))))
        (pe_op op_sub (pe_op op_pow pe_int pe_int) pe_int)))
    (pss_one (ps_ret (pe_op op_mod (pe_op op_fdiv (pe_op op_mod (pe_op op_pow (pv 3) pe_int) (pe_op op_add (pe_op op_pow pe_int pe_int) pe_int)) pe_int) (pv 1))))))), ?_⟩
  obtain ⟨gs0, x0, fo, n, e1, e2, hf0, hf1, hn0, hn1⟩ := T.ex
  have gt : g ≠ t := by
    refine ne_of e2 e1 fun q => ?_
    have q2 := congrArg (fun o : HO => match o with | .lst (V.ref _ :: _) => true | _ => false) q
    cases gs0 <;> simp at q2
  -- what stands behind the while
  refine ⟨fun σ H' => σ = [some (.ref t), some (.int many), none, none] ∧ ∃ (gs : List Int) (x : Int), Kp [t, g] H H' ∧ H' t = some (.lst [.ref g, .int x, .int fo, .int n]) ∧ H' g = some (.lst (gs.map V.int)), ?_, ?_⟩
  · refine ⟨fun m σ H' => σ = [some (.ref t), some (.int many), none, none] ∧ ∃ (gs : List Int) (x : Int), m = gs.length ∧ Kp [t, g] H H' ∧ H' t = some (.lst [.ref g, .int x, .int fo, .int n]) ∧ H' g = some (.lst (gs.map V.int)),
      ⟨_, rfl, gs0, x0, rfl, .refl _ _, e1, e2⟩, ?_⟩
    rintro m σ H1 ⟨rfl, gs, x, rfl, kp, h1, h2⟩
    refine ⟨_, rfl, t, _, _, _, rfl, rfl, SqL.of h1, atI_nat (j := 1) rfl, _, _, rfl, rfl, _, rfl, ite2 (fun c => ?_) (fun c => ?_)⟩
    · refine ⟨_, rfl, t, _, _, _, rfl, rfl, SqL.of h1, atI_nat (j := 0) rfl, Nat.zero_le _, fun p np => ?_⟩
      have h1' : upd H1 p (.lst []) t = _ := upd_at h1 np
      have h2' : upd H1 p (.lst []) g = _ := upd_at h2 np
      have kp' : Kp [t, g] H (upd H1 p (.lst [])) := kp.trans (.new np)
      refine ⟨.list (gs.map PyData.int), .list [], .lst (SqL.of h2') (dpInts gs), .lst (SqL.of upd_same) .nil, PySem.W.shaped_ints gs, by decide +kernel, _, rfl, ?_⟩
      rw [eqv_ints_nil]
      cases gs with
      | nil => exact iteF ⟨rfl, [], x, kp', h1', h2'⟩
      | cons y r =>
        refine iteT ⟨fun σ H' => σ = [some (.ref t), some (.int many), none, none] ∧ ∃ (x : Int), Kp [t, g] H H' ∧ H' t = some (.lst [.ref g, .int x, .int fo, .int n]) ∧ H' g = some (.lst (r.map V.int)), ?_, ?_⟩
        · rintro σ' H' ⟨e, x', k1, k2, k3⟩
          exact ⟨_, Nat.lt_succ_self _, e, r, x', rfl, k1, k2, k3⟩
        · have h3 : upd (upd H1 p (.lst [])) g (.lst (r.map V.int)) t = _ := (upd_ne gt.symm).trans h1'
          refine ⟨_, rfl, t, _, _, _, rfl, rfl, SqL.of h1', atI_nat (j := 0) rfl, .inl ⟨rfl, _, SqL.of h2'⟩, g, _, 0, 0, _, rfl, rfl, h2', by decide, by decide, by simp [seqIndex?], rfl, ?_⟩
          refine ⟨_, rfl, t, _, 1, 1, rfl, rfl, h3, rfl, rfl, y, ?_, upd_same, ?_⟩
          · exact (kp'.trans (.set h2' (by simp))).trans (.set h3 (by simp))
          · rw [upd_ne gt]
            exact upd_same
    · exact iteF ⟨rfl, gs, x, kp, h1, h2⟩
  · rintro σ H1 ⟨rfl, gs, x, kp, h1, h2⟩
    refine ⟨_, rfl, t, _, _, _, rfl, rfl, SqL.of h1, atI_nat (j := 1) rfl, _, _, rfl, rfl, _, rfl, ite2 (fun c => ?_) (fun c => ?_)⟩
    · refine ⟨_, rfl, t, _, _, _, rfl, rfl, SqL.of h1, atI_nat (j := 1) rfl, _, rfl, _, _, rfl, rfl, hm0, ?_⟩
      refine ⟨_, rfl, t, _, _, _, rfl, rfl, SqL.of h1, atI_nat (j := 1) rfl, _, rfl, _, _, rfl, rfl, ⟨hm0, hm1⟩, ?_⟩
      refine ⟨_, rfl, t, _, 1, 1, rfl, rfl, h1, rfl, _, rfl, ?_⟩
      refine q _ _ (Int.emod_nonneg _ (by omega)) (Int.emod_lt_of_pos _ hm0) ⟨gs, _, fo, n, upd_same, (upd_ne gt).trans h2, hf0, hf1, hn0, by omega⟩ (kp.trans (.set h1 (by simp)))
    · refine ⟨_, rfl, t, _, _, _, rfl, rfl, SqL.of h1, atI_nat (j := 3) rfl, _, _, rfl, rfl, _, rfl, t, _, 3, 3, rfl, rfl, h1, rfl, ?_⟩
      have h3 : upd H1 t (.lst [.ref g, .int x, .int fo, .int (n + 1)]) t = _ := upd_same
      have b1 : n ≤ 2 ^ 60 := by omega
      refine ⟨_, rfl, t, _, _, _, rfl, rfl, SqL.of h3, atI_nat (j := 2) rfl, _, _, rfl, rfl, _, rfl, t, _, _, _, rfl, rfl, SqL.of h3, atI_nat (j := 3) rfl, _, _, rfl, rfl, _, _, rfl, rfl, ⟨by decide, by decide, by omega⟩, _, _, rfl, rfl, .inl ⟨by omega, by omega⟩,
        _, rfl, t, _, _, _, rfl, rfl, SqL.of h3, atI_nat (j := 3) rfl, _, _, rfl, rfl, .inl ⟨by decide, by decide⟩, _, _, rfl, rfl, _, _, rfl, rfl, ⟨by decide, by decide, by decide⟩, _, _, rfl, rfl, _, _, rfl, rfl, m61, ?_⟩
      generalize hmix : ((fo + 5) * (n + 1 + 2) ^ Int.toNat 3 + 1000003 * (n + 1)) % (2 ^ Int.toNat 61 - 1) = mx
      have bm : 0 ≤ mx ∧ mx < 2 ^ 61 := hmix ▸ mod61 _
      refine ⟨_, rfl, _, _, rfl, rfl, ⟨by decide, by decide, ?_⟩, _, _, rfl, rfl, ⟨by decide, by decide, by decide⟩, _, _, rfl, rfl, _, _, rfl, rfl, (by show (0 : Int) < 10 ^ Int.toNat 18 + 9; decide), _, _, rfl, rfl, ⟨by decide, by decide⟩, _, rfl, _, _, rfl, rfl, hm0, ?_⟩
      · subst hmix
        show (((fo + 5) * (n + 1 + 2) ^ Int.toNat 3 + 1000003 * (n + 1)) % (2 ^ Int.toNat 61 - 1)).natAbs < 2 ^ 64
        omega
      · exact q _ _ (Int.emod_nonneg _ (by omega)) (Int.emod_lt_of_pos _ hm0) ⟨gs, x, fo, n + 1, upd_same, (upd_ne gt).trans h2, hf0, hf1, by omega, by omega⟩ (kp.trans (.set h1 (by simp)))
end
end FR

namespace FR
open PySem PySem.Spec PyProof.Rows L2
abbrev sWord : Stmt := top 9
section
variable {P : Program} {w : World} {K : PySem.W.Frag} {mg : Str → Option Value} {base : Heap}
structure DrawC (P : Program) (w : World) (K : PySem.W.Frag) (mg : Str → Option Value) (base : Heap) (j : Nat) (f : Addr) (fd : FuncData) : Prop where
  ok : FnOk P w K mg base CX0 j f fd ["tray", "many"] spDraw
  m : mg "_law_draw" = some (.ref f)
  kp : PySem.W.keepIn K (.ref f) = true
  b : Binds K fd ["tray", "many"] []
theorem scWord : FnScope ["tray", "some", "letters", "k"] ["tray"] (defScope sWord) := ⟨rfl, rfl, rfl, by decide +kernel, rfl, by decide +kernel, by decide +kernel⟩
theorem ok_word {f fD : Addr} {fd fdD : FuncData} {k : Nat} (F : Fun K "_law_word" "_law_word" sWord f fd) (D : DrawC P w K mg base k fD fdD) (mr : mg "range" = none) : FnOk P w K mg base CX0 (k + 1) f fd ["tray"] spWord := by
  refine F.ok scWord (fun vs H Q E h => ?_) (fun cdv A outer s H vs Q E hr h => ?_)
  · obtain ⟨t, g, N, rfl, _⟩ := h
    rfl
  obtain ⟨t, g, N, rfl, T, hN, q⟩ := h
  refine ⟨_, pss_cons (ps_set (i := 1) scWord.nd rfl (.inl rfl) (pe_lst (pa_cons pe_str (pa_cons pe_str (pa_cons pe_str (pa_cons pe_str (pa_cons pe_str (pa_cons pe_str (pa_cons pe_str (pa_cons pe_str pa_nil))))))))))
    (pss_cons (ps_if (pt_cmpR op_gt (pe_call D.ok hr (by rfl) D.m D.kp D.b .nil pass0 (pa_cons (pv 0) (pa_cons pe_int pa_nil))) pe_int (nomark _))
      (pss_one (ps_ret (pe_ix ix_list (pv 1) (pe_call D.ok hr (by rfl) D.m D.kp D.b .nil pass0 (pa_cons (pv 0) (pa_cons pe_int pa_nil))) (fun _ _ => rfl)))) pss_nil)
    (pss_cons (ps_set (i := 2) scWord.nd rfl (.inr rfl) pe_str)
    (pss_one (ps_ret (pe_join pe_str (pe_lc (own := [("k", 3)]) (g := gName 3) (tt := tYes) rfl scWord.nd (pi_range1 (by rfl) mr (pa_cons (pe_op op_add pe_int (pe_call D.ok hr (by rfl) D.m D.kp D.b .nil pass0 (pa_cons (pv 0) (pa_cons pe_int pa_nil)))) pa_nil))
      (blkOk_by (N := ["tray", "some", "letters", "k"]) (sc := defScope sWord) (by decide +kernel)) (fun _ _ _ _ _ => pg_name (i := 3) scWord.nd rfl (Or.inl rfl)) (fun _ _ _ _ _ => pts_nil)
      (fun _ _ _ _ _ => pe_ix ix_str (pv 2) (pe_call D.ok hr (by rfl) D.m D.kp D.b .nil pass0 (pa_cons (pv 0) (pa_cons pe_int pa_nil))) (fun _ _ => rfl)))))))), ?_⟩
  refine ⟨(by show 8 ≤ sizeLine; decide), fun sm nsm => ?_⟩
  have T1 := T.same (same_new (o := .lst (someWords.map V.str)) nsm)
  have nS := T.neT nsm
  refine ⟨_, rfl, t, g, N, 3, rfl, T1, by omega, by decide, by decide, fun H2 k2 hk0 hk1 T2 kp2 => ?_⟩
  have hs2 : H2 sm = some (.lst (someWords.map V.str)) := kp2.lst upd_same nS
  refine ⟨_, _, rfl, rfl, _, rfl, ite2 (fun c => ?_) (fun c => ?_)⟩
  · refine ⟨_, rfl, _, rfl, t, g, N + 1, 8, rfl, T2, by omega, by decide, by decide, fun H3 k3 h30 h31 T3 kp3 => ?_⟩
    obtain ⟨s, hs, ok⟩ := some_at h30 h31
    refine ⟨sm, _, _, _, rfl, rfl, SqL.of (kp3.lst hs2 nS), hs, ?_⟩
    exact q _ s ok (T3.mono (by omega)) (((Kp.new nsm).trans kp2).trans kp3)
  · refine ⟨⟨_, rfl⟩, _, rfl, t, g, N + 1, 8, rfl, T2, by omega, by decide, by decide, fun H3 k3 h30 h31 T3 kp3 => ?_⟩
    have kH : Kp [t, g] H H3 := ((Kp.new nsm).trans kp2).trans kp3
    refine ⟨_, _, rfl, rfl, 1 + k3, rfl, by omega, by omega, fun D nD => ?_⟩
    have nDH : H D = none := kH.dm D nD
    refine lc_range (lo := 0) (n := (1 + k3).toNat) (fun i H' => ∃ l : List Nat, H' D = some (.lst (l.map fun c => V.str ⟨#[c]⟩)) ∧ l.length = i ∧ (∀ c ∈ l, 97 ≤ c ∧ c ≤ 122) ∧ TrayAt H' t g (N + 2 + i) ∧ Kp [t, g] H H')
      ⟨[], upd_same, rfl, by simp, (T3.same (same_new nD)).mono (by omega), kH.over nDH⟩ ?_ ?_
    · rintro i H4 hi ⟨l, hD, hl, hc, T4, kp4⟩
      refine ⟨rfl, _, rfl, _, rfl, t, g, N + 2 + i, 26, rfl, T4, by omega, by decide, by decide, fun H5 k5 h50 h51 T5 kp5 => ?_⟩
      have nDt : D ∉ [t, g] := T.neT nDH
      refine ⟨_, k5, _, rfl, rfl, abc_len, abc_at h50 h51, _, kp5.lst hD nDt, ?_, l ++ [97 + k5.toNat], ?_, ?_, ?_, ?_, (kp4.trans kp5).over nDH⟩
      · rw [List.length_map]
        exact small1000 (by omega)
      · rw [upd_same, List.map_append]
        rfl
      · rw [List.length_append, hl]
        rfl
      · intro c m
        rcases List.mem_append.mp m with m | m
        · exact hc c m
        · rw [List.mem_singleton.mp m]
          omega
      · exact (T5.over nDt).mono (by omega)
    · rintro H4 ⟨l, hD, hl, hc, T4, kp4⟩
      have hl8 : l.length ≤ 8 := by omega
      refine ⟨Str.empty, D, l.map fun c => (⟨#[c]⟩ : Str), rfl, rfl, .inl (SqL.of (by rw [hD, List.map_map]; rfl)), ?_, ?_⟩
      · rw [ones_sum, List.length_map]
        show l.length + l.length * 0 ≤ 16777216
        omega
      · refine q _ _ ?_ (T4.mono (by omega)) kp4
        unfold WordOk
        rw [join_one]
        exact ⟨by omega, hl8, hc⟩
end
end FR

namespace FR
open PySem PySem.Spec PyProof.Rows L2
abbrev sWhat : Stmt := top 10
section
variable {P : Program} {w : World} {K : PySem.W.Frag} {mg : Str → Option Value} {base : Heap}
/-- a def that stands at a name of the module -/
structure Cal (P : Program) (w : World) (K : PySem.W.Frag) (mg : Str → Option Value) (base : Heap) (j : Nat) (x : Str) (ps : List Str) (sp : Sp) (f : Addr) (fd : FuncData) : Prop where
  ok : FnOk P w K mg base CX0 j f fd ps sp
  m : mg x = some (.ref f)
  kp : PySem.W.keepIn K (.ref f) = true
  b : Binds K fd ps []
theorem Cal.mono {i j : Nat} {x : Str} {ps : List Str} {sp : Sp} {f : Addr} {fd : FuncData} (c : Cal P w K mg base i x ps sp f fd) (h : i ≤ j) : Cal P w K mg base j x ps sp f fd := ⟨c.ok.mono h, c.m, c.kp, c.b⟩
theorem scWhat : FnScope ["tray", "who", "many", "mights", "lot", "might", "right", "whom"] ["tray", "who", "many", "mights"] (defScope sWhat) := ⟨rfl, rfl, rfl, by decide +kernel, rfl, by decide +kernel, by decide +kernel⟩
theorem ok_what {f fD fW : Addr} {fd fdD fdW : FuncData} {k : Nat} (F : Fun K "_law_what" "_law_what" sWhat f fd) (D : DrawC P w K mg base k fD fdD) (W : Cal P w K mg base k "_law_word" ["tray"] spWord fW fdW) (ml : mg "len" = none) : FnOk P w K mg base CX0 (k + 1) f fd ["tray", "who", "many", "mights"] spWhat := by
  refine F.ok scWhat (fun vs H Q E h => ?_) (fun cdv A outer s H vs Q E hr h => ?_)
  · obtain ⟨t, g, m, N, who, many, ms, rfl, _⟩ := h
    rfl
  obtain ⟨t, g, m, N, who, many, ms, rfl, T, hN, hw0, hw1, hm6, hm, nm, ne, ml3, mok, q⟩ := h
  refine ⟨_, pss_cons (ps_set (i := 4) scWhat.nd rfl (.inl rfl) (pe_call D.ok hr (by rfl) D.m D.kp D.b .nil pass0 (pa_cons (pv 0) (pa_cons pe_int pa_nil))))
    (pss_cons (ps_set (i := 5) scWhat.nd rfl (.inl rfl) (pe_ix ix_list (pv 3) (pe_call D.ok hr (by rfl) D.m D.kp D.b .nil pass0 (pa_cons (pv 0) (pa_cons (pe_callB call_len_seq (by rfl) ml PySem.boot_len (pa_cons (pv 3) pa_nil)) pa_nil))) (fun _ _ => rfl)))
    (C8.pss_cut (ps_if (PW.pt (pw_and (pt_cmpR op_lt (pv 4) pe_int (nomark _)) (pw_and1 (pt_cmpR op_lt (pe_op op_add (pv 1) pe_int) (pv 2) (nomark _)))))
      (pss_cons (ps_set (i := 6) scWhat.nd rfl (.inl rfl) (pe_ix ix_list (pe_lst (pa_cons pe_str (pa_cons pe_str pa_nil))) (pe_call D.ok hr (by rfl) D.m D.kp D.b .nil pass0 (pa_cons (pv 0) (pa_cons pe_int pa_nil))) (fun _ _ => rfl)))
      (pss_cons (ps_set (i := 7) scWhat.nd rfl (.inl rfl) (pe_op op_add (pe_op op_add (pv 1) pe_int) (pe_call D.ok hr (by rfl) D.m D.kp D.b .nil pass0 (pa_cons (pv 0) (pa_cons (pe_op op_sub (pe_op op_sub (pv 2) pe_int) (pv 1)) pa_nil)))))
      (pss_one (ps_ret (pe_tup (pa_cons (pe_ix ix_list (pe_lst (pa_cons pe_str (pa_cons pe_str (pa_cons pe_str (pa_cons pe_str pa_nil))))) (pv 4) (fun _ _ => rfl)) (pa_cons (pv 5) (pa_cons (pv 6) (pa_cons (pv 7) pa_nil))))))))) pss_nil)
    (pss_one (ps_ret (pe_tup (pa_cons pe_str (pa_cons (pv 5) (pa_cons (pe_call W.ok hr (by rfl) W.m W.kp W.b .nil pass0 (pa_cons (pv 0) pa_nil)) pa_nil)))))))), ?_⟩
  have l0 : 0 < ms.length := Nat.pos_of_ne_zero fun e => ne (List.length_eq_zero_iff.mp e)
  refine ⟨_, rfl, t, g, N, 6, rfl, T, by omega, by decide, by decide, fun H1 lot hl0 hl6 T1 k1 => ?_⟩
  have hm1 := k1.lst hm nm
  refine ⟨_, rfl, _, rfl, _, rfl, m, _, rfl, .inl (SqL.of hm1), t, g, N + 1, (ms.length : Int), (by rw [List.length_map]; rfl), T1, by omega, by omega, by omega, fun H2 j hj0 hj1 T2 k2 => ?_⟩
  have hm2 := k2.lst hm1 nm
  obtain ⟨mt, mm, hmt⟩ := strs_at (ms := ms) hj0 hj1
  have kH2 := k1.trans k2
  refine ⟨m, _, _, _, rfl, rfl, SqL.of hm2, hmt, ?_⟩
  refine ⟨fun σ H' => σ = [some (.ref t), some (.int who), some (.int many), some (.ref m), some (.int lot), some (.str mt), none, none] ∧ H' = H2, ?_, ?_⟩
  · refine ⟨_, rfl, _, _, rfl, rfl, _, rfl, ite2 (fun c => ?_) (fun c => iteF ⟨rfl, rfl⟩)⟩
    have hl4 : lot < 4 := of_decide_eq_true c
    refine ⟨_, rfl, _, _, rfl, rfl, _, rfl, _, _, rfl, rfl, _, rfl, ite2 (fun c2 => ?_) (fun c2 => ⟨rfl, rfl⟩)⟩
    have hwm : who + 1 < many := of_decide_eq_true c2
    refine ⟨(by show 2 ≤ sizeLine; decide), fun p np => ?_⟩
    have T2' := T2.same (same_new (o := .lst [.str "use", .str "lead"]) np)
    refine ⟨_, rfl, t, g, N + 2, 2, rfl, T2', by omega, by decide, by decide, fun H3 k3 h30 h31 T3 kp3 => ?_⟩
    obtain ⟨ki, hki, eki⟩ := kind_at h30 h31
    refine ⟨p, _, _, _, rfl, rfl, SqL.of (kp3.lst upd_same (T2.neT np)), eki, ?_⟩
    refine ⟨_, rfl, _, _, rfl, rfl, _, rfl, _, rfl, _, _, rfl, rfl, _, rfl, _, _, rfl, rfl, t, g, N + 3, many - 1 - who, rfl, T3, by omega, by omega, by omega, fun H4 k4 h40 h41 T4 kp4 => ?_⟩
    refine ⟨_, _, rfl, rfl, ?_⟩
    refine ⟨(by show 4 ≤ sizeLine; decide), fun p2 np2 => ?_⟩
    obtain ⟨de, hde, ede⟩ := deal_at hl0 hl4
    refine ⟨_, rfl, p2, _, _, _, rfl, rfl, SqL.of upd_same, ede, _, rfl, _, rfl, _, rfl, (by show 4 ≤ sizeLine; decide), fun p3 np3 => ?_⟩
    have kH : Kp [t, g] H (upd H4 p2 (.lst [.str "give", .str "give", .str "give", .str "take"])) := (((kH2.trans (.new np)).trans kp3).trans kp4).trans (.new np2)
    have T5 := (T4.same (same_new np2)).same (same_new (o := .tup [.str de, .str mt, .str ki, .int (who + 1 + k4)]) np3)
    rcases hde with rfl | rfl
    · exact q _ p3 (.give mt ki (who + 1 + k4)) (kH.dm _ np3) upd_same ⟨mok _ mm, hki, by omega, by omega⟩ (T5.mono (by omega)) (kH.trans (.new np3))
    · exact q _ p3 (.take mt ki (who + 1 + k4)) (kH.dm _ np3) upd_same ⟨mok _ mm, hki, by omega, by omega⟩ (T5.mono (by omega)) (kH.trans (.new np3))
  · rintro σ H' ⟨rfl, rfl⟩
    refine ⟨_, rfl, _, rfl, t, g, N + 2, rfl, T2, by omega, fun H3 s ok T3 kp3 => ?_⟩
    refine ⟨(by show 3 ≤ sizeLine; decide), fun p3 np3 => ?_⟩
    have kH := kH2.trans kp3
    exact q _ p3 (.use mt s) (kH.dm _ np3) upd_same ⟨mok _ mm, ok⟩ ((T3.same (same_new np3)).mono (by omega)) (kH.trans (.new np3))
end
end FR

namespace FR
open PySem PySem.Spec PyProof.Rows L2
abbrev sWorld : Stmt := top 11
abbrev sMost : Stmt := top 12
section
variable {P : Program} {w : World} {K : PySem.W.Frag} {mg : Str → Option Value} {base : Heap}
theorem scMost : FnScope ["tray"] ["tray"] (defScope sMost) := ⟨rfl, rfl, rfl, by decide +kernel, rfl, by decide +kernel, by decide +kernel⟩
theorem ok_most {f fD : Addr} {fd fdD : FuncData} {k : Nat} (F : Fun K "_law_most" "_law_most" sMost f fd) (D : DrawC P w K mg base k fD fdD) : FnOk P w K mg base CX0 (k + 1) f fd ["tray"] spMost := by
  refine F.ok scMost (fun vs H Q E h => ?_) (fun cdv A outer s H vs Q E hr h => ?_)
  · obtain ⟨t, g, N, rfl, _⟩ := h
    rfl
  obtain ⟨t, g, N, rfl, T, hN, q⟩ := h
  refine ⟨_, pss_one (ps_ret (pe_ix ix_list (pe_lst (pa_cons pe_int (pa_cons pe_int (pa_cons pe_int (pa_cons pe_int pa_nil))))) (pe_op op_fdiv (pe_call D.ok hr (by rfl) D.m D.kp D.b .nil pass0 (pa_cons (pv 0) (pa_cons pe_int pa_nil))) pe_int) (fun _ _ => rfl))), ?_⟩
  refine ⟨(by show 4 ≤ sizeLine; decide), fun p np => ?_⟩
  refine ⟨_, rfl, t, g, N, 16, rfl, T.same (same_new np), by omega, by decide, by decide, fun H1 k1 h0 h1 T1 kp1 => ?_⟩
  have kH := (Kp.new (o := .lst [.int 6, .int 15, .int 30, .int 110]) np).trans kp1
  have hp := kp1.lst upd_same (T.neT np)
  refine ⟨_, _, rfl, rfl, ⟨by decide, by decide⟩, p, _, _, .int (([6, 15, 30, 110] : List Int).getD (k1 / 5).toNat 0), rfl, rfl, SqL.of hp, ?_, ?_⟩
  · have hk : (k1 / 5).toNat < 4 := by omega
    refine at_of (j := (k1 / 5).toNat) (by omega) ?_
    have q : ∀ j : Fin 4, ([.int 6, .int 15, .int 30, .int 110] : List V)[j.val]? = some (.int (([6, 15, 30, 110] : List Int).getD j.val 0)) := by decide
    exact q ⟨_, hk⟩
  · have hk : (k1 / 5).toNat < 4 := by omega
    have b : ∀ j : Fin 4, 0 ≤ ([6, 15, 30, 110] : List Int).getD j.val 0 ∧ ([6, 15, 30, 110] : List Int).getD j.val 0 ≤ 110 := by decide
    exact q _ _ (b ⟨_, hk⟩).1 (b ⟨_, hk⟩).2 T1 kH

abbrev nWorld : List Str := ["tray", "most", "many", "mights", "known", "acts", "turn", "who", "other", "k", "one", "two"]
theorem scWorld : FnScope nWorld ["tray", "most"] (defScope sWorld) := ⟨rfl, rfl, rfl, by decide +kernel, rfl, by decide +kernel, by decide +kernel⟩
theorem ok_world {f fD fW fT : Addr} {fd fdD fdW fdT : FuncData} {k : Nat} (F : Fun K "_law_world" "_law_world" sWorld f fd) (D : DrawC P w K mg base k fD fdD) (W : Cal P w K mg base k "_law_word" ["tray"] spWord fW fdW)
    (T : Cal P w K mg base k "_law_what" ["tray", "who", "many", "mights"] spWhat fT fdT) (mr : mg "range" = none) (mx : mg "max" = none) (mz : mg "zip" = none) (mt : mg "tuple" = none) : FnOk P w K mg base CX0 (k + 1) f fd ["tray", "most"] spWorld := by
  refine F.ok scWorld (fun vs H Q E h => ?_) (fun cdv A outer s H vs Q E hr h => ?_)
  · obtain ⟨t, g, N, most, rfl, _⟩ := h
    rfl
  obtain ⟨t, g, N, most, rfl, TA, hm0, hm1, hN, q⟩ := h
  refine ⟨_, pss_cons (ps_set (i := 2) scWorld.nd rfl (.inr rfl) (pe_ix ix_list (pe_lst (pa_cons (pe_op op_add pe_int (pe_call D.ok hr (by rfl) D.m D.kp D.b .nil pass0 (pa_cons (pv 0) (pa_cons pe_int pa_nil)))) (pa_cons (pe_op op_add pe_int (pe_call D.ok hr (by rfl) D.m D.kp D.b .nil pass0 (pa_cons (pv 0) (pa_cons pe_int pa_nil)))) (pa_cons pe_int (pa_cons pe_int pa_nil)))))
        (pe_call D.ok hr (by rfl) D.m D.kp D.b .nil pass0 (pa_cons (pv 0) (pa_cons pe_int pa_nil))) (fun _ _ => rfl)))
    (pss_cons (ps_setLc (i := 3) (own := [("k", 9)]) (g := gName 9) (tt := tYes) (by rfl) scWorld.nd rfl rfl (sw_true rfl rfl rfl (by decide +kernel)) (pi_range1 (by rfl) mr (pa_cons (pe_op op_add pe_int (pe_call D.ok hr (by rfl) D.m D.kp D.b .nil pass0 (pa_cons (pv 0) (pa_cons pe_int pa_nil)))) pa_nil))
        (blkOk_by (N := nWorld) (sc := defScope sWorld) (by decide +kernel)) (fun _ _ _ _ _ => pg_name (i := 9) scWorld.nd rfl (Or.inl rfl)) (fun _ _ _ _ _ => pts_nil)
        (fun _ _ _ _ _ => pe_call W.ok hr (by rfl) W.m W.kp W.b .nil pass0 (pa_cons (pv 0) pa_nil)))
    (pss_cons (ps_setLc (i := 4) (own := [("k", 9)]) (g := gName 9) (tt := tYes) (by rfl) scWorld.nd rfl rfl (sw_true rfl rfl rfl (by decide +kernel)) (pi_range1 (by rfl) mr (pa_cons (pv 2) pa_nil))
        (blkOk_by (N := nWorld) (sc := defScope sWorld) (by decide +kernel)) (fun _ _ _ _ _ => pg_name (i := 9) scWorld.nd rfl (Or.inl rfl)) (fun _ _ _ _ _ => pts_nil)
        (fun _ _ _ _ _ => pe_op op_rep (pe_lst (pa_cons pe_int pa_nil)) (pv 2)))
    (pss_cons (ps_set (i := 5) scWorld.nd rfl (.inl rfl) (pe_lst pa_nil))
    (pss_cons (ps_for PassesOwn.never rfl (pi_range1 (by rfl) mr (pa_cons (pe_call D.ok hr (by rfl) D.m D.kp D.b .nil pass0 (pa_cons (pv 0) (pa_cons (pe_op op_add (pv 1) pe_int) pa_nil))) pa_nil)) (pg_name (i := 6) scWorld.nd rfl (.inl rfl))
      (pss_cons (ps_set (i := 7) scWorld.nd rfl (.inl rfl) (pe_call D.ok hr (by rfl) D.m D.kp D.b .nil pass0 (pa_cons (pv 0) (pa_cons (pv 2) pa_nil))))
      (C8.pss_cut (ps_if (pt_cmpR op_gt (pe_call D.ok hr (by rfl) D.m D.kp D.b .nil pass0 (pa_cons (pv 0) (pa_cons pe_int pa_nil))) pe_int (nomark _))
          (pss_cons (ps_set (i := 8) scWorld.nd rfl (.inl rfl) (pe_call D.ok hr (by rfl) D.m D.kp D.b .nil pass0 (pa_cons (pv 0) (pa_cons (pv 2) pa_nil))))
          (pss_one (ps_asg (pe_lc (own := [("one", 10), ("two", 11)]) (g := gTup K 2 (gCons (gName 10) (gCons (gName 11) gNil))) (tt := tYes) rfl scWorld.nd
              (pi_zip (by rfl) mz (pa_cons (pe_ix ix_list (pv 4) (pv 7) (fun _ _ => rfl)) (pa_cons (pe_ix ix_list (pv 4) (pv 8) (fun _ _ => rfl)) pa_nil)))
              (blkOk_by (N := nWorld) (sc := defScope sWorld) (by decide +kernel)) (fun _ _ _ _ _ => pg_tup rfl (pgs_cons (pg_name (i := 10) scWorld.nd rfl (Or.inl rfl)) (pgs_cons (pg_name (i := 11) scWorld.nd rfl (Or.inl rfl)) pgs_nil))) (fun _ _ _ _ _ => pts_nil)
              (fun _ _ _ _ _ => pe_callB (call_max2 rfl) (by rfl) mx (by decide +kernel) (pa_cons (pv 10) (pa_cons (pv 11) pa_nil)))) (pg_sub (pv 4) (pv 7) set_list)))) pss_nil)
      (pss_cons (ps_expr (pe_bm PySem.F.plainAttrs_list PySem.F.slot_list_append PySem.F.type_list_append mt_append (pv 5) (pa_cons (pe_tup (pa_cons (pv 7) (pa_cons (pe_op op_add (pe_ix ix_list (pe_ix ix_list (pv 4) (pv 7) (fun _ _ => rfl)) (pv 7) (fun _ _ => rfl)) pe_int)
          (pa_cons (pe_callTy call_tuple_of (by rfl) mt (by decide +kernel) (pa_cons (pe_ix ix_list (pv 4) (pv 7) (fun _ _ => rfl)) pa_nil)) (pa_cons (pe_call T.ok hr (by rfl) T.m T.kp T.b .nil pass0 (pa_cons (pv 0) (pa_cons (pv 7) (pa_cons (pv 2) (pa_cons (pv 3) pa_nil))))) pa_nil))))) pa_nil)))
      (pss_one (ps_asg (pe_op op_add (pe_ix ix_list (pe_ix ix_list (pv 4) (pv 7) (fun _ _ => rfl)) (pv 7) (fun _ _ => rfl)) pe_int) (pg_sub (pe_ix ix_list (pv 4) (pv 7) (fun _ _ => rfl)) (pv 7) set_list)))))))
    (pss_one (ps_ret (pe_lst (pa_cons (pv 2) (pa_cons (pv 5) pa_nil))))))))), ?_⟩
  -- many
  refine ⟨_, rfl, t, g, N, 6, rfl, TA, by omega, by decide, by decide, fun H1 k1 h10 h11 T1 kp1 => ?_⟩
  refine ⟨_, _, rfl, rfl, _, rfl, t, g, N + 1, 5, rfl, T1, by omega, by decide, by decide, fun H2 k2 h20 h21 T2 kp2 => ?_⟩
  refine ⟨_, _, rfl, rfl, (by show 4 ≤ sizeLine; decide), fun p np => ?_⟩
  refine ⟨_, rfl, t, g, N + 2, 4, rfl, T2.same (same_new np), by omega, by decide, by decide, fun H3 k3 h30 h31 T3 kp3 => ?_⟩
  obtain ⟨many, emv, b1, b6⟩ : ∃ many : Nat, atI ([.int (1 + k1), .int (2 + k2), .int 3, .int 4] : List V) k3 = some (.int many) ∧ 1 ≤ many ∧ many ≤ 6 := by
    have e3 : k3 = 0 ∨ k3 = 1 ∨ k3 = 2 ∨ k3 = 3 := by omega
    rcases e3 with rfl | rfl | rfl | rfl
    · exact ⟨(1 + k1).toNat, by rw [Int.toNat_of_nonneg (by omega)]; rfl, by omega, by omega⟩
    · exact ⟨(2 + k2).toNat, by rw [Int.toNat_of_nonneg (by omega)]; rfl, by omega, by omega⟩
    · exact ⟨3, rfl, by omega, by omega⟩
    · exact ⟨4, rfl, by omega, by omega⟩
  refine ⟨p, _, _, _, rfl, rfl, SqL.of (kp3.lst upd_same (T2.neT np)), emv, ?_⟩
  have kH3 : Kp [t, g] H H3 := ((kp1.trans kp2).trans (.new np)).trans kp3
  -- mights
  refine ⟨_, rfl, t, g, N + 3, 3, rfl, T3, by omega, by decide, by decide, fun H4 k4 h40 h41 T4 kp4 => ?_⟩
  have kH4 := kH3.trans kp4
  refine ⟨_, _, rfl, rfl, 1 + k4, rfl, by omega, by omega, fun m nm => ?_⟩
  have nmH : H m = none := kH4.dm m nm
  have nmT : m ∉ [t, g] := TA.neT nmH
  refine lc_range (lo := 0) (n := (1 + k4).toNat) (fun i H' => ∃ ms : List Str, H' m = some (.lst (ms.map V.str)) ∧ ms.length = i ∧ (∀ s ∈ ms, WordOk s) ∧ TrayAt H' t g (N + 4 + 12 * i) ∧ Kp [t, g] H H')
    ⟨[], upd_same, rfl, by simp, T4.same (same_new nm), kH4.over nmH⟩ ?_ ?_
  · rintro i H5 hi ⟨ms, hm, hl, hok, T5, kp5⟩
    refine ⟨rfl, _, rfl, t, g, N + 4 + 12 * i, rfl, T5, by omega, fun H6 s ok T6 kp6 => ?_⟩
    refine ⟨_, kp6.lst hm nmT, ?_, ms ++ [s], ?_, ?_, ?_, (T6.over nmT).mono (by omega), (kp5.trans kp6).over nmH⟩
    · rw [List.length_map]
      exact small1000 (by omega)
    · rw [upd_same, List.map_append]
      rfl
    · rw [List.length_append, hl]
      rfl
    · intro c mc
      rcases List.mem_append.mp mc with mc | mc
      · exact hok c mc
      · rw [List.mem_singleton.mp mc]
        exact ok
  rintro H5 ⟨ms, hm5, hl5, hok, T5, kp5⟩
  have ml3 : ms.length ≤ 3 := by omega
  have mne : ms ≠ [] := fun e => by
    rw [e, List.length_nil] at hl5
    omega
  -- known
  refine ⟨_, rfl, _, rfl, by omega, by omega, fun kn nkn => ?_⟩
  have nknH : H kn = none := kp5.dm kn nkn
  have nknT : kn ∉ [t, g] := TA.neT nknH
  have nknm : kn ≠ m := ne_new hm5 nkn
  refine lc_range (lo := 0) (n := ((many : Nat) : Int).toNat) (fun i H' => ∃ as : List Addr, H' kn = some (.lst (as.map V.ref)) ∧ as.length = i ∧ RowsAt H' as (List.replicate i (List.replicate many 0)) ∧ as.Nodup ∧
      (∀ a ∈ as, a ∉ [t, g, kn, m] ∧ H a = none) ∧ H' m = some (.lst (ms.map V.str)) ∧ TrayAt H' t g (N + 4 + 12 * 3) ∧ Kp [t, g] H H')
    ⟨[], upd_same, rfl, .nil, List.nodup_nil, by simp, (upd_ne nknm.symm).trans hm5, (T5.same (same_new nkn)).mono (by omega), kp5.over nknH⟩ ?_ ?_
  · rintro i H6 hi ⟨as, hkn, hl, hrow, hnd, hap, hm6, T6, kp6⟩
    refine ⟨rfl, (by show 1 ≤ sizeLine; decide), fun z nz => ?_⟩
    refine ⟨_, rfl, z, _, _, rfl, rfl, upd_same, by omega, by omega, ?_, fun a na => ?_⟩
    · show 1 * ((many : Nat) : Int).toNat ≤ sizeLine
      exact Nat.le_of_lt (small1000 (by omega))
    · have naz : a ≠ z := ne_new upd_same na
      have na6 : H6 a = none := (upd_ne naz).symm.trans na
      have nakn : a ≠ kn := ne_new hkn na6
      have ha : upd (upd H6 z (.lst [.int 0])) a (.lst (List.replicate ((many : Nat) : Int).toNat ([V.int 0] : List V)).flatten) a = some (.lst ((List.replicate many (0 : Int)).map V.int)) := by
        rw [upd_same, rep_zero, Int.toNat_natCast]
      have k7 : Kp [] H6 (upd (upd H6 z (.lst [.int 0])) a (.lst (List.replicate ((many : Nat) : Int).toNat ([V.int 0] : List V)).flatten)) := (Kp.new nz).trans (.new na)
      have nas : a ∉ as := fun ma => by
        obtain ⟨j, hj⟩ := List.getElem?_of_mem ma
        obtain ⟨r, _, e⟩ := paired_at hrow hj
        rw [na6] at e
        cases e
      have k8 : Kp [kn] H6 (upd (upd (upd H6 z (.lst [.int 0])) a (.lst (List.replicate ((many : Nat) : Int).toNat ([V.int 0] : List V)).flatten)) kn (.lst (as.map V.ref ++ [.ref a]))) :=
        (k7.mono (by simp)).trans (.set (k7.lst hkn (by simp)) (by simp))
      refine ⟨_, k7.lst hkn (by simp), ?_, as ++ [a], ?_, ?_, ?_, ?_, ?_, ?_, ?_, ?_⟩
      · rw [List.length_map]
        exact small1000 (by omega)
      · rw [upd_same, List.map_append]
        rfl
      · rw [List.length_append, hl]
        rfl
      · rw [List.replicate_succ']
        refine paired_snoc (F := fun (b : Addr) (r : List Int) => upd (upd (upd H6 z (.lst [.int 0])) a (.lst (List.replicate ((many : Nat) : Int).toNat ([V.int 0] : List V)).flatten)) kn (.lst (as.map V.ref ++ [.ref a])) b = some (.lst (r.map V.int))) (hrow.keep k8 fun b mb => ?_) ((upd_ne nakn).trans ha)
        have q := (hap b mb).1
        simp only [List.mem_cons, List.not_mem_nil, or_false, not_or] at q ⊢
        exact q.2.2.1
      · rw [List.nodup_append]
        refine ⟨hnd, by simp, fun x mx y my => ?_⟩
        rw [List.mem_singleton.mp my]
        exact fun e => nas (e ▸ mx)
      · intro b mb
        rcases List.mem_append.mp mb with mb | mb
        · exact hap b mb
        · rw [List.mem_singleton.mp mb]
          refine ⟨?_, kp6.dm a na6⟩
          have q := TA.neT (kp6.dm a na6)
          simp only [List.mem_cons, List.not_mem_nil, or_false, not_or] at q ⊢
          exact ⟨q.1, q.2, nakn, ne_new hm6 na6⟩
      · exact k8.lst hm6 (by simp; exact nknm.symm)
      · simp only [List.mem_cons, List.not_mem_nil, or_false, not_or] at nknT
        exact T6.keep k8 (by simp; exact fun e => nknT.1 e.symm) (by simp; exact fun e => nknT.2 e.symm)
      · exact ((kp6.trans (k7.mono (by simp))).over nknH)
  rintro H6 ⟨as, hkn, hl, hrow, hnd, hap, hm6, T6, kp6⟩
  rw [Int.toNat_natCast] at hrow hl
  -- acts
  refine ⟨Nat.zero_le _, fun ac nac => ?_⟩
  have nacH : H ac = none := kp6.dm ac nac
  have naT := TA.neT nacH
  have W0 : WAt H (upd H6 ac (.lst [])) t g m kn ac ms as [] [] (List.replicate many (List.replicate many 0)) (N + 40) := by
    have s6 : Same H6 (upd H6 ac (.lst [])) := same_new nac
    refine {
      hkn := s6 _ _ hkn, hac := upd_same, hm := s6 _ _ hm6, rows := hrow.keep (S := []) (.of s6) (by simp), nd := hnd, apart := fun a h => ?_, nkn := ?_, nac := ?_, nm := nmT, acts := .nil, T := T6.same s6, kp := kp6.over nacH, fkn := nknH, fac := nacH, frows := fun a h => (hap a h).2 }
    · have q := (hap a h).1
      simp only [List.mem_cons, List.not_mem_nil, or_false, not_or] at q ⊢
      refine ⟨q.1, q.2.1, q.2.2.1, ?_, q.2.2.2⟩
      obtain ⟨j, hj⟩ := List.getElem?_of_mem h
      obtain ⟨r, _, e⟩ := paired_at hrow hj
      exact ne_of_none e nac
    · simp only [List.mem_cons, List.not_mem_nil, or_false, not_or] at nknT ⊢
      exact ⟨nknT.1, nknT.2, ne_of_none hkn nac, nknm⟩
    · simp only [List.mem_cons, List.not_mem_nil, or_false, not_or] at naT ⊢
      exact ⟨naT.1, naT.2, ne_new hm6 nac⟩
  generalize upd H6 ac (.lst []) = H7 at W0
  -- for turn in range(..)
  refine ⟨_, rfl, _, rfl, _, _, rfl, rfl, t, g, N + 40, most + 1, rfl, W0.T, by omega, by omega, by omega, fun H8 tn h80 h81 T8 kp8 => ?_⟩
  have W8 := W0.keep kp8 T8
  refine ⟨tn, rfl, by omega, by omega, for_range (lo := 0) (n := tn.toNat) (fun i σ H' => ∃ v6 v7 v8, σ = [some (.ref t), some (.int most), some (.int (many : Int)), some (.ref m), some (.ref kn), some (.ref ac), v6, v7, v8, none, none, none] ∧
      ∃ as ps acts known, WAt H H' t g m kn ac ms as ps acts known (N + 41 + 20 * i) ∧ Wd many acts known ∧ acts.length = i)
    ⟨none, none, none, rfl, as, [], [], _, W8, .nil, rfl⟩ ?_ ?_⟩
  · rintro i σ H9 hi ⟨v6, v7, v8, rfl, as, ps, acts, known, W9, wd, hla⟩
    obtain ⟨hkl, hrl⟩ := wd.lens
    -- who
    refine ⟨_, rfl, _, rfl, t, g, _, many, rfl, W9.T, by omega, by omega, by omega, fun HA who ha0 ha1 TA' kpA => ?_⟩
    have WA := W9.keep kpA TA'
    obtain ⟨wi, ewi⟩ : ∃ wi : Nat, who = (wi : Int) := ⟨who.toNat, by omega⟩
    have hwi : wi < known.length := by omega
    obtain ⟨row, hrow⟩ := get_some hwi
    refine ⟨fun σ H' => ∃ v8, σ = [some (.ref t), some (.int most), some (.int (many : Int)), some (.ref m), some (.ref kn), some (.ref ac), some (.int (0 + (i : Int))), some (.int who), v8, none, none, none] ∧
        ∃ as row', WAt H H' t g m kn ac ms as ps acts (known.set wi row') (N + 44 + 20 * i) ∧ (row' = row ∨ ∃ (j : Nat) (ro : List Int), known[j]? = some ro ∧ row' = List.zipWith max row ro), ?_, ?_⟩
    · refine ⟨_, rfl, t, g, _, 3, rfl, WA.T, by omega, by decide, by decide, fun HB d hb0 hb1 TB' kpB => ?_⟩
      have WB := WA.keep kpB TB'
      refine ⟨_, _, rfl, rfl, _, rfl, ite2 (fun c => ?_) (fun c => ?_)⟩
      · refine ⟨_, rfl, _, rfl, t, g, _, many, rfl, WB.T, by omega, by omega, by omega, fun HC oi hc0 hc1 TC' kpC => ?_⟩
        have WC := WB.keep kpC TC'
        obtain ⟨oj, eoj⟩ : ∃ oj : Nat, oi = (oj : Int) := ⟨oi.toNat, by omega⟩
        have hoj : oj < known.length := by omega
        obtain ⟨ro, hro⟩ := get_some hoj
        obtain ⟨ra, era, hra, mra⟩ := WC.row hrow
        obtain ⟨oa, eoa, hoa, moa⟩ := WC.row hro
        have hll : row.length = many := hrl _ (List.mem_of_getElem? hrow)
        have hol : ro.length = many := hrl _ (List.mem_of_getElem? hro)
        refine ⟨_, rfl, _, rfl, kn, _, _, _, rfl, rfl, SqL.of WC.hkn, at_of ewi mra, _, rfl, _, rfl, kn, _, _, _, rfl, rfl, SqL.of WC.hkn, at_of eoj moa, ra, oa, _, _, rfl, SqL.of hra, SqL.of hoa, fun D nD => ?_⟩
        refine lc_it (walk_zip (K := K) (a := ra) (b := oa) (xs := row.map V.int) (ys := ro.map V.int) (n := many) (by rw [List.length_map, List.length_map, hll, hol, Nat.min_self]))
          (fun i H' => Kp [D] HC H' ∧ Same HC H' ∧ H' D = some (.lst (((List.zipWith max row ro).take i).map V.int))) ⟨.new nD, same_new nD, upd_same⟩ (fun i H' _ h => ⟨h.2.1.seq (SqL.of hra), h.2.1.seq (SqL.of hoa)⟩) ?_ ?_
        · rintro i2 x HD HE hi2 ⟨kD, sD, hD⟩ ⟨T, x1, y1, rfl, nT, rfl, e1, e2⟩
          obtain ⟨z1, hz1, rfl⟩ := map_int_at e1
          obtain ⟨z2, hz2, rfl⟩ := map_int_at e2
          refine ⟨T, _, rfl, sqT upd_same, rfl, _, _, rfl, _, _, rfl, rfl, rfl, _, rfl, _, rfl, _, _, rfl, ?_⟩
          have nTD : T ≠ D := ne_new hD nT
          refine ⟨_, (upd_ne nTD.symm).trans hD, ?_, (kD.trans (.new nT)).trans (.set ((upd_ne nTD.symm).trans hD) (by simp)), fun b o e => ?_, ?_⟩
          · rw [List.length_map]
            exact small1000 (Nat.le_trans (List.length_take_le _ _) (by omega))
          · rw [upd_ne (ne_of_none e nD), upd_ne (ne_of_none (sD _ _ e) nT)]
            exact sD _ _ e
          · rw [upd_same, zip_take hz1 hz2, List.map_append, max_int]
            rfl
        · rintro HD ⟨kD, sD, hD⟩
          rw [List.take_of_length_le (by rw [List.length_zipWith]; omega)] at hD
          have nDH : H D = none := WC.kp.dm D nD
          have WD := WC.keep (H' := HD) (.of sD) (WC.T.same sD)
          have hjl : wi < (as.map V.ref).length := (List.getElem?_eq_some_iff.mp mra).1
          refine ⟨_, rfl, _, rfl, kn, _, who, wi, rfl, rfl, WD.hkn, ixN_of ewi hjl, ?_⟩
          refine ⟨_, rfl, as.set wi D, _, ?_, .inr ⟨oj, ro, hro, rfl⟩⟩
          rw [map_set_ref]
          refine (WD.put hD ?_ ?_ nDH).mono (by omega)
          · have q := WC.T.neT nD
            simp only [List.mem_cons, List.not_mem_nil, or_false, not_or] at q ⊢
            exact ⟨q.1, q.2, ne_new WC.hkn nD, ne_new WC.hac nD, ne_new WC.hm nD⟩
          · intro md
            obtain ⟨j, hj⟩ := List.getElem?_of_mem md
            obtain ⟨r, _, e⟩ := paired_at WC.rows hj
            rw [nD] at e
            cases e
      · refine ⟨v8, rfl, as, row, ?_, .inl rfl⟩
        have e : known.set wi row = known := by
          obtain ⟨hl, he⟩ := List.getElem?_eq_some_iff.mp hrow
          rw [← he, List.set_getElem_self]
        rw [e]
        exact WB.mono (by omega)
    · rintro σ HB ⟨v8, rfl, as, row', WB, hr'⟩
      have hl' : row'.length = many := by
        rcases hr' with rfl | ⟨j, ro, hj, rfl⟩
        · exact hrl _ (List.mem_of_getElem? hrow)
        · rw [List.length_zipWith, hrl _ (List.mem_of_getElem? hrow), hrl _ (List.mem_of_getElem? hj), Nat.min_self]
      obtain ⟨c, hc⟩ := get_some (l := row') (i := wi) (by omega)
      have hself : (known.set wi row')[wi]? = some row' := List.getElem?_set_self hwi
      obtain ⟨ra, era, hra, mra⟩ := WB.row hself
      refine ⟨_, rfl, .inl ⟨rfl, _, SqL.of WB.hac⟩, _, rfl, _, rfl, _, rfl, kn, _, _, _, rfl, rfl, SqL.of WB.hkn, at_of ewi mra, _, rfl, ra, _, _, _, rfl, rfl, SqL.of hra, at_of ewi (ints_at hc), _, _, rfl, rfl,
        _, rfl, _, rfl, kn, _, _, _, rfl, rfl, SqL.of WB.hkn, at_of ewi mra, ra, _, rfl, .inl ⟨SqL.of hra, fun n nn => ?_⟩⟩
      have W1 := WB.keep (.new (o := .tup (row'.map V.int)) nn) (WB.T.same (same_new nn))
      have hn1 : upd HB n (.tup (row'.map V.int)) n = _ := upd_same
      generalize upd HB n (.tup (row'.map V.int)) = H1 at W1 hn1
      refine ⟨_, rfl, _, rfl, _, rfl, _, rfl, t, g, m, _, who, many, ms, rfl, W1.T, by omega, ha0, ha1, by omega, W1.hm, W1.nm, mne, ml3, hok, fun H2 qa wt nq hq ok T2 kp2 => ?_⟩
      have W2 := W1.keep kp2 T2
      refine ⟨(by show 4 ≤ sizeLine; decide), fun p np => ?_⟩
      have k3 : Kp [t, g] H2 (upd H2 p (.tup [.int who, .int (c + 1), .ref n, .ref qa])) := .new np
      have W3 := W2.keep k3 (W2.T.same (same_new np))
      have hact : ActAt (upd H2 p (.tup [.int who, .int (c + 1), .ref n, .ref qa])) p ⟨(wi : Int), c + 1, row', wt⟩ := by
        refine ⟨n, qa, ?_, k3.tp _ _ (kp2.tp _ _ hn1), k3.tp _ _ hq⟩
        rw [upd_same, ewi]
      have hpl : (ps.map V.ref).length = i := by
        rw [List.length_map, paired_len W3.acts, hla]
      refine ⟨ac, _, _, rfl, rfl, W3.hac, by rw [hpl]; exact small1000 (by omega), ?_⟩
      have W4 := W3.app hact
      have hra4 : upd (upd H2 p (.tup [.int who, .int (c + 1), .ref n, .ref qa])) ac (.lst (ps.map V.ref ++ [.ref p])) ra = some (.lst (row'.map V.int)) := by
        obtain ⟨y, ey, e⟩ := paired_at W4.rows era
        rw [hself] at ey
        cases ey
        exact e
      refine ⟨_, rfl, _, rfl, kn, _, _, _, rfl, rfl, SqL.of W4.hkn, at_of ewi mra, _, rfl, ra, _, _, _, rfl, rfl, SqL.of hra4, at_of ewi (ints_at hc), _, _, rfl, rfl,
        _, rfl, _, rfl, kn, _, _, _, rfl, rfl, SqL.of W4.hkn, at_of ewi mra, _, rfl, ra, _, who, wi, rfl, rfl, hra4, ixN_of ewi (by rw [List.length_map]; omega), ?_⟩
      have W5 := W4.turn (row := row'.set wi (c + 1)) era hra4
      rw [List.set_set, List.map_set] at W5
      refine ⟨_, _, _, rfl, as, _, _, _, W5.mono (by omega), wd.step hrow hr' hc (by rw [← ewi]; exact ok), ?_⟩
      rw [List.length_append, hla]
      rfl
  · rintro σ H9 ⟨v6, v7, v8, rfl, as, ps, acts, known, W9, wd, hla⟩
    refine ⟨_, rfl, _, rfl, (by show 2 ≤ sizeLine; decide), fun r nr => ?_⟩
    have s9 : Same H9 (upd H9 r (.lst [.int (many : Int), .ref ac])) := same_new nr
    have W10 := W9.keep (.of s9) (W9.T.same s9)
    have hla2 : (acts.length : Int) ≤ most := by omega
    refine q _ r ac ps many acts known b1 b6 hla2 wd (W9.kp.dm r nr) nacH ?_ naT upd_same W10.hac W10.acts (W10.T.mono (by omega)) W10.kp
    have q := W9.T.neT nr
    simp only [List.mem_cons, List.not_mem_nil, or_false, not_or] at q ⊢
    exact ⟨q.1, q.2, ne_new W9.hac nr⟩
end
end FR

namespace FR
open PySem PySem.Spec PyProof.Rows L2
abbrev sAlike : Stmt := top 8
section
variable {P : Program} {w : World} {K : PySem.W.Frag} {mg : Str → Option Value} {base : Heap}
structure Blt (mg : Str → Option Value) : Prop where
  len : mg "len" = none
  range : mg "range" = none
  isi : mg "isinstance" = none
  bool : mg "bool" = none
  int : mg "int" = none
  str : mg "str" = none
  list : mg "list" = none
  tuple : mg "tuple" = none
  sum : mg "sum" = none
  sorted : mg "sorted" = none
  set : mg "set" = none
  max : mg "max" = none
  zip : mg "zip" = none
theorem scAlike : FnScope ["found", "due", "k"] ["found", "due"] (defScope sAlike) := ⟨rfl, rfl, rfl, by decide +kernel, rfl, by decide +kernel, by decide +kernel⟩
theorem ok_alike {n : Nat} {f : Addr} {fd : FuncData} (F : Fun K "_law_alike" "_law_alike" sAlike f fd) (G : Cal P w K mg base n "_law_alike" ["found", "due"] (spAlike n) f fd) (B : Blt mg) : FnOk P w K mg base CX0 (n + 1) f fd ["found", "due"] (spAlike (n + 1)) := by
  refine F.ok scAlike (fun vs H Q E h => ?_) (fun cdv A outer s H vs Q E hr h => ?_)
  · obtain ⟨x, y, rfl, _⟩ := h
    rfl
  obtain ⟨x, y, rfl, hal, q⟩ := h
  refine ⟨_, pss_cons (ps_if (pt_cmpR op_isN (pv 1) pe_non (nomark _)) (pss_one (ps_ret (pe_cmpR op_isN (pv 0) pe_non (nomark _)))) pss_nil)
    (pss_cons (ps_if (pt_val (pe_callB call_isi (by rfl) B.isi (by decide +kernel) (pa_cons (pv 1) (pa_cons (pe_bltn (v := .ty "bool") (u := .type "bool") (by rfl) B.bool (by decide +kernel) rfl) pa_nil))))
      (pss_one (ps_ret (pe_and (pe_callB call_isi (by rfl) B.isi (by decide +kernel) (pa_cons (pv 0) (pa_cons (pe_bltn (v := .ty "bool") (u := .type "bool") (by rfl) B.bool (by decide +kernel) rfl) pa_nil))) (pe_one (pe_cmpR op_eq (pv 0) (pv 1) (nomark _)))))) pss_nil)
    (pss_cons (ps_if (pt_val (pe_callB call_isi (by rfl) B.isi (by decide +kernel) (pa_cons (pv 1) (pa_cons (pe_bltn (v := .ty "int") (u := .type "int") (by rfl) B.int (by decide +kernel) rfl) pa_nil))))
      (pss_one (ps_ret (pe_and (pe_callB call_isi (by rfl) B.isi (by decide +kernel) (pa_cons (pv 0) (pa_cons (pe_bltn (v := .ty "int") (u := .type "int") (by rfl) B.int (by decide +kernel) rfl) pa_nil)))
        (pe_and (pe_not (pe_callB call_isi (by rfl) B.isi (by decide +kernel) (pa_cons (pv 0) (pa_cons (pe_bltn (v := .ty "bool") (u := .type "bool") (by rfl) B.bool (by decide +kernel) rfl) pa_nil)))) (pe_one (pe_cmpR op_eq (pv 0) (pv 1) (nomark _))))))) pss_nil)
    (pss_cons (ps_if (pt_val (pe_callB call_isi (by rfl) B.isi (by decide +kernel) (pa_cons (pv 1) (pa_cons (pe_bltn (v := .ty "str") (u := .type "str") (by rfl) B.str (by decide +kernel) rfl) pa_nil))))
      (pss_one (ps_ret (pe_and (pe_callB call_isi (by rfl) B.isi (by decide +kernel) (pa_cons (pv 0) (pa_cons (pe_bltn (v := .ty "str") (u := .type "str") (by rfl) B.str (by decide +kernel) rfl) pa_nil))) (pe_one (pe_cmpR op_eq (pv 0) (pv 1) (nomark _)))))) pss_nil)
    (pss_cons (ps_if (PW.pt (pw_or (pt_cmpR op_ne (pe_callB call_isi (by rfl) B.isi (by decide +kernel) (pa_cons (pv 0) (pa_cons (pe_bltn (v := .ty "list") (u := .type "list") (by rfl) B.list (by decide +kernel) rfl) pa_nil)))
          (pe_callB call_isi (by rfl) B.isi (by decide +kernel) (pa_cons (pv 1) (pa_cons (pe_bltn (v := .ty "list") (u := .type "list") (by rfl) B.list (by decide +kernel) rfl) pa_nil))) (nomark _))
        (pw_or1 (pt_cmpR op_ne (pe_callB call_isi (by rfl) B.isi (by decide +kernel) (pa_cons (pv 0) (pa_cons (pe_bltn (v := .ty "tuple") (u := .type "tuple") (by rfl) B.tuple (by decide +kernel) rfl) pa_nil)))
          (pe_callB call_isi (by rfl) B.isi (by decide +kernel) (pa_cons (pv 1) (pa_cons (pe_bltn (v := .ty "tuple") (u := .type "tuple") (by rfl) B.tuple (by decide +kernel) rfl) pa_nil))) (nomark _))))) (pss_one (ps_ret pe_bl)) pss_nil)
    (pss_cons (ps_if (pt_cmpR op_ne (pe_callB call_len_seq (by rfl) B.len PySem.boot_len (pa_cons (pv 0) pa_nil)) (pe_callB call_len_seq (by rfl) B.len PySem.boot_len (pa_cons (pv 1) pa_nil)) (nomark _)) (pss_one (ps_ret pe_bl)) pss_nil)
    (pss_cons (ps_for PassesOwn.never rfl (pi_range1 (by rfl) B.range (pa_cons (pe_callB call_len_seq (by rfl) B.len PySem.boot_len (pa_cons (pv 1) pa_nil)) pa_nil)) (pg_name (i := 2) scAlike.nd rfl (.inl rfl))
      (pss_one (ps_if (pt_not (pt_val (pe_call G.ok hr (by rfl) G.m G.kp G.b .nil pass0 (pa_cons (pe_ix ix_seq (pv 0) (pv 2) (fun _ _ => rfl)) (pa_cons (pe_ix ix_seq (pv 1) (pv 2) (fun _ _ => rfl)) pa_nil))))) (pss_one (ps_ret pe_bl)) pss_nil)))
    (pss_one (ps_ret pe_bl)))))))), ?_⟩
  refine ⟨_, rfl, rfl, _, rfl, ?_⟩
  rcases hal with ⟨rfl, hp⟩ | ⟨a, b, xs, ys, rfl, rfl, hab, hl, hn, hf⟩
  · cases x with
    | non => exact iteT ⟨_, rfl, rfl, q _ (Same.refl _)⟩
    | bl c =>
      refine iteF ⟨_, rfl, _, _, _, _, true, rfl, .ty _, .base (.bl c), kit_ty (by decide +kernel), _, rfl, iteT ⟨_, rfl, _, _, _, _, true, rfl, .ty _, .base (.bl c), kit_ty (by decide +kernel), _, rfl, iteT ⟨_, rfl, _, rfl, rfl, ?_⟩⟩⟩
      rw [decide_eq_true rfl]
      exact q _ (Same.refl _)
    | int c =>
      refine iteF ⟨_, rfl, _, _, _, _, false, rfl, .ty _, .base (.int c), kit_ty (by decide +kernel), _, rfl, iteF ⟨_, rfl, _, _, _, _, true, rfl, .ty _, .base (.int c), kit_ty (by decide +kernel), _, rfl, iteT ⟨_, rfl, _, _, _, _, true, rfl, .ty _, .base (.int c), kit_ty (by decide +kernel), _, rfl, iteT ⟨_, rfl, _, _, _, _, false, rfl, .ty _, .base (.int c), kit_ty (by decide +kernel), _, rfl, _, rfl, iteT ⟨_, rfl, _, rfl, rfl, ?_⟩⟩⟩⟩⟩
      rw [decide_eq_true rfl]
      exact q _ (Same.refl _)
    | str c =>
      refine iteF ⟨_, rfl, _, _, _, _, false, rfl, .ty _, .base (.str c), kit_ty (by decide +kernel), _, rfl, iteF ⟨_, rfl, _, _, _, _, false, rfl, .ty _, .base (.str c), kit_ty (by decide +kernel), _, rfl, iteF ⟨_, rfl, _, _, _, _, true, rfl, .ty _, .base (.str c), kit_ty (by decide +kernel), _, rfl, iteT ⟨_, rfl, _, _, _, _, true, rfl, .ty _, .base (.str c), kit_ty (by decide +kernel), _, rfl, iteT ⟨_, rfl, _, rfl, rfl, ?_⟩⟩⟩⟩⟩
      rw [decide_eq_true rfl]
      exact q _ (Same.refl _)
    | byt c => cases hp
    | flt c => cases hp
    | ref c => cases hp
    | ty c => cases hp
  · rcases hab with ⟨h1, h2⟩ | ⟨h1, h2⟩
    · -- lists
      refine iteF ⟨_, rfl, _, _, _, _, false, rfl, .ty _, .base (.lst h2), kit_ty (by decide +kernel), _, rfl, iteF ⟨_, rfl, _, _, _, _, false, rfl, .ty _, .base (.lst h2), kit_ty (by decide +kernel), _, rfl, iteF ⟨_, rfl, _, _, _, _, false, rfl, .ty _, .base (.lst h2), kit_ty (by decide +kernel), _, rfl, iteF ?_⟩⟩⟩
      refine ⟨_, rfl, _, _, _, _, true, rfl, .ty _, .base (.lst h1), kit_ty (by decide +kernel), _, rfl, _, _, _, _, true, rfl, .ty _, .base (.lst h2), kit_ty (by decide +kernel), rfl, _, rfl, iteNS rfl ?_⟩
      refine ⟨_, rfl, _, _, _, _, false, rfl, .ty _, .base (.lst h1), kit_ty (by decide +kernel), _, rfl, _, _, _, _, false, rfl, .ty _, .base (.lst h2), kit_ty (by decide +kernel), rfl, _, rfl, iteNS rfl ?_⟩
      refine ⟨_, rfl, a, xs, rfl, .inl (sqL h1), _, rfl, b, ys, rfl, .inl (sqL h2), rfl, _, rfl, iteNS (by rw [hl]) ?_⟩
      refine ⟨_, rfl, b, ys, rfl, .inl (sqL h2), _, rfl, by omega, by omega, for_range (lo := 0) (n := ((ys.length : Nat) : Int).toNat) (fun i σ H' => ∃ v, σ = [some (.ref a), some (.ref b), v] ∧ Same H H') ⟨none, rfl, .refl _⟩ ?_ ?_⟩
      · rintro i σ H1 hi ⟨v, rfl, s1⟩
        obtain ⟨u1, e1⟩ := get_some (l := xs) (i := i) (by omega)
        obtain ⟨u2, e2⟩ := get_some (l := ys) (i := i) (by omega)
        refine ⟨_, rfl, _, rfl, .inl ⟨a, xs, _, u1, rfl, rfl, sqL (s1 _ _ h1), at_of (by omega) e1, _, rfl, _, rfl, .inl ⟨b, ys, _, u2, rfl, rfl, sqL (s1 _ _ h2), at_of (by omega) e2, u1, u2, rfl, (hf i u1 u2 e1 e2).same s1, fun H2 s2 => ⟨true, rfl, iteF ⟨_, rfl, s1.trans s2⟩⟩⟩⟩⟩
      · rintro σ H1 ⟨v, rfl, s1⟩
        exact q _ s1
    · -- tuples
      refine iteF ⟨_, rfl, _, _, _, _, false, rfl, .ty _, .base (.tup h2), kit_ty (by decide +kernel), _, rfl, iteF ⟨_, rfl, _, _, _, _, false, rfl, .ty _, .base (.tup h2), kit_ty (by decide +kernel), _, rfl, iteF ⟨_, rfl, _, _, _, _, false, rfl, .ty _, .base (.tup h2), kit_ty (by decide +kernel), _, rfl, iteF ?_⟩⟩⟩
      refine ⟨_, rfl, _, _, _, _, false, rfl, .ty _, .base (.tup h1), kit_ty (by decide +kernel), _, rfl, _, _, _, _, false, rfl, .ty _, .base (.tup h2), kit_ty (by decide +kernel), rfl, _, rfl, iteNS rfl ?_⟩
      refine ⟨_, rfl, _, _, _, _, true, rfl, .ty _, .base (.tup h1), kit_ty (by decide +kernel), _, rfl, _, _, _, _, true, rfl, .ty _, .base (.tup h2), kit_ty (by decide +kernel), rfl, _, rfl, iteNS rfl ?_⟩
      refine ⟨_, rfl, a, xs, rfl, .inr (sqT h1), _, rfl, b, ys, rfl, .inr (sqT h2), rfl, _, rfl, iteNS (by rw [hl]) ?_⟩
      refine ⟨_, rfl, b, ys, rfl, .inr (sqT h2), _, rfl, by omega, by omega, for_range (lo := 0) (n := ((ys.length : Nat) : Int).toNat) (fun i σ H' => ∃ v, σ = [some (.ref a), some (.ref b), v] ∧ Same H H') ⟨none, rfl, .refl _⟩ ?_ ?_⟩
      · rintro i σ H1 hi ⟨v, rfl, s1⟩
        obtain ⟨u1, e1⟩ := get_some (l := xs) (i := i) (by omega)
        obtain ⟨u2, e2⟩ := get_some (l := ys) (i := i) (by omega)
        refine ⟨_, rfl, _, rfl, .inr (.inl ⟨a, xs, _, u1, rfl, rfl, sqT (s1 _ _ h1), at_of (by omega) e1, _, rfl, _, rfl, .inr (.inl ⟨b, ys, _, u2, rfl, rfl, sqT (s1 _ _ h2), at_of (by omega) e2, u1, u2, rfl, (hf i u1 u2 e1 e2).same s1, fun H2 s2 => ⟨true, rfl, iteF ⟨_, rfl, s1.trans s2⟩⟩⟩)⟩)⟩
      · rintro σ H1 ⟨v, rfl, s1⟩
        exact q _ s1
end
end FR

namespace FR
open PySem PySem.Spec PyProof.Rows L2
abbrev sMark : Stmt := top 1
abbrev sSize : Stmt := top 2
abbrev sSeen : Stmt := top 3
section
variable {P : Program} {w : World} {K : PySem.W.Frag} {mg : Str → Option Value} {base : Heap}
theorem scMark : FnScope ["deed"] ["deed"] (defScope sMark) := ⟨rfl, rfl, rfl, by decide +kernel, rfl, by decide +kernel, by decide +kernel⟩
theorem ok_mark {f : Addr} {fd : FuncData} {k : Nat} (F : Fun K "mark" "mark" sMark f fd) : FnOk P w K mg base CX0 (k + 1) f fd ["deed"] spMark := by
  refine F.ok scMark (fun vs H Q E h => ?_) (fun cdv A outer s H vs Q E hr h => ?_)
  · obtain ⟨p, a, rfl, _⟩ := h
    rfl
  obtain ⟨p, a, rfl, ⟨n, q, h1, h2, h3⟩, out⟩ := h
  refine ⟨_, pss_one (ps_ret (pe_tup (pa_cons (pe_ix ix_tup (pv 0) pe_int (fun _ _ => rfl)) (pa_cons (pe_ix ix_tup (pv 0) pe_int (fun _ _ => rfl)) pa_nil)))), ?_⟩
  exact ⟨_, rfl, p, _, _, _, rfl, rfl, sqT h1, atI_nat (j := 0) rfl, _, rfl, p, _, _, _, rfl, rfl, sqT h1, atI_nat (j := 1) rfl, (by show 2 ≤ sizeLine; decide), fun r nr => out r _ (same_new nr) nr upd_same⟩
theorem scSize : FnScope ["deed"] ["deed"] (defScope sSize) := ⟨rfl, rfl, rfl, by decide +kernel, rfl, by decide +kernel, by decide +kernel⟩
theorem ok_size {f : Addr} {fd : FuncData} {k : Nat} (F : Fun K "size" "size" sSize f fd) (B : Blt mg) : FnOk P w K mg base CX0 (k + 1) f fd ["deed"] spSize := by
  refine F.ok scSize (fun vs H Q E h => ?_) (fun cdv A outer s H vs Q E hr h => ?_)
  · obtain ⟨p, a, rfl, _⟩ := h
    rfl
  obtain ⟨p, a, rfl, ⟨n, q, h1, h2, h3⟩, out⟩ := h
  refine ⟨_, pss_one (ps_ret (pe_callB (cr_sumT rfl) (by rfl) B.sum (by decide +kernel) (pa_cons (pe_ix ix_tup (pv 0) pe_int (fun _ _ => rfl)) pa_nil))), ?_⟩
  exact ⟨_, rfl, p, _, _, _, rfl, rfl, sqT h1, atI_nat (j := 2) rfl, n, _, rfl, sqT h2, out⟩
theorem scSeen : FnScope ["deed", "mark", "author", "number", "note"] ["deed", "mark"] (defScope sSeen) := ⟨rfl, rfl, rfl, by decide +kernel, rfl, by decide +kernel, by decide +kernel⟩
theorem ok_seen {f : Addr} {fd : FuncData} {k : Nat} (F : Fun K "has_seen" "has_seen" sSeen f fd) (B : Blt mg) : FnOk P w K mg base CX0 (k + 1) f fd ["deed", "mark"] spSeen := by
  refine F.ok scSeen (fun vs H Q E h => ?_) (fun cdv A outer s H vs Q E hr h => ?_)
  · obtain ⟨p, m, a, o, k, rfl, _⟩ := h
    rfl
  obtain ⟨p, m, a, o, k, rfl, ⟨n, q, h1, h2, h3⟩, hm, out⟩ := h
  refine ⟨_, pss_cons (ps_asg (pv 1) (pg_tup rfl (pgs_cons (pg_name (i := 2) scSeen.nd rfl (.inl rfl)) (pgs_cons (pg_name (i := 3) scSeen.nd rfl (.inl rfl)) pgs_nil))))
    (pss_cons (ps_set (i := 4) scSeen.nd rfl (.inl rfl) (pe_ix ix_tup (pv 0) pe_int (fun _ _ => rfl)))
    (pss_one (ps_ret (pe_and (pe_chain op_le op_lt pe_int (pv 2) (pe_callB call_len_seq (by rfl) B.len PySem.boot_len (pa_cons (pv 4) pa_nil)))
      (pe_one (pe_chain op_le op_le pe_int (pv 3) (pe_ix ix_tup (pv 4) (pv 2) (fun _ _ => rfl)))))))), ?_⟩
  refine ⟨_, rfl, m, _, rfl, sqT hm, rfl, _, _, rfl, _, _, rfl, rfl, _, rfl, p, _, _, _, rfl, rfl, sqT h1, atI_nat (j := 2) rfl, ?_⟩
  refine ⟨_, rfl, _, _, rfl, rfl, _, rfl, ite2 (fun c => ?_) (fun c => ?_)⟩
  · have c1 : 0 ≤ o := of_decide_eq_true c
    refine ⟨_, rfl, n, _, rfl, .inr (sqT h2), _, _, rfl, rfl, _, rfl, ite2 (fun c2 => ?_) (fun c2 => ?_)⟩
    · have c2 : o < ((a.note.map V.int).length : Nat) := of_decide_eq_true c2
      rw [List.length_map] at c2
      have hj : o.toNat < a.note.length := by omega
      refine ⟨_, rfl, _, _, rfl, rfl, _, rfl, ite2 (fun c3 => ?_) (fun c3 => ?_)⟩
      · refine ⟨_, rfl, _, rfl, n, _, _, .int (a.note.getD o.toNat 0), rfl, rfl, sqT h2, at_of (j := o.toNat) (by omega) (ints_at (by simp [List.getD, hj])), _, _, rfl, rfl, ?_⟩
        have e : a.seen o k = decide (k ≤ a.note.getD o.toNat 0) := by
          unfold Act.seen
          rw [c, decide_eq_true c2, show decide (1 ≤ k) = true from c3]
          simp
        rw [e] at out
        exact out
      · have e : a.seen o k = false := by
          unfold Act.seen
          rw [show decide (1 ≤ k) = false from Bool.eq_false_iff.mpr c3]
          simp
        rw [e] at out
        exact out
    · have e : a.seen o k = false := by
        have c2 : decide (o < (((a.note.map V.int).length : Nat) : Int)) = false := Bool.eq_false_iff.mpr c2
        rw [List.length_map] at c2
        unfold Act.seen
        rw [c2]
        simp
      rw [e] at out
      exact out
  · have e : a.seen o k = false := by
      unfold Act.seen
      rw [show decide (0 ≤ o) = false from Bool.eq_false_iff.mpr c]
      simp
    rw [e] at out
    exact ⟨false, rfl, iteF out⟩
end
end FR

namespace FR
open PySem PySem.Spec PyProof.Rows L2
abbrev sFar : Stmt := top 13
abbrev sRight : Stmt := top 14
abbrev sLaw : Stmt := top 15
def spFar : Sp := fun vs H Q _ => ∃ (t g : Addr) (N many : Nat), vs = [.ref t, .int many] ∧ TrayAt H t g N ∧ N < 2 ^ 59 ∧ 1 ≤ many ∧ many ≤ 6 ∧
  ∀ (H' : Hp) (p : Addr) (a : Act), H p = none → ActAt H' p a → a.note.length = many → (∀ x ∈ a.note, 0 ≤ x) → a.what.Fit → TrayAt H' t g (N + 100) → Kp [t, g] H H' → Q (.ref p) H'
def spRight : Sp := fun vs H Q _ => ∃ (t g p : Addr) (N many : Nat) (a : Act), vs = [.ref t, .int many, .ref p] ∧ TrayAt H t g N ∧ N < 2 ^ 59 ∧ 1 ≤ many ∧ many ≤ 6 ∧ ActAt H p a ∧ a.note.length = many ∧ (∀ x ∈ a.note, 0 ≤ x) ∧ a.what.Fit ∧
  ∀ H' : Hp, TrayAt H' t g (N + 100) → Kp [t, g] H H' → Q (.bl true) H'
section
variable {P : Program} {w : World} {K : PySem.W.Frag} {mg : Str → Option Value} {base : Heap}
abbrev nFar : List Str := ["tray", "many", "note", "who", "k"]
theorem scFar : FnScope nFar ["tray", "many"] (defScope sFar) := ⟨rfl, rfl, rfl, by decide +kernel, rfl, by decide +kernel, by decide +kernel⟩
theorem ok_far {f fD fW : Addr} {fd fdD fdW : FuncData} {k : Nat} (F : Fun K "_law_far" "_law_far" sFar f fd) (D : DrawC P w K mg base k fD fdD) (W : Cal P w K mg base k "_law_word" ["tray"] spWord fW fdW) (B : Blt mg) : FnOk P w K mg base CX0 (k + 1) f fd ["tray", "many"] spFar := by
  refine F.ok scFar (fun vs H Q E h => ?_) (fun cdv A outer s H vs Q E hr h => ?_)
  · obtain ⟨t, g, N, many, rfl, _⟩ := h
    rfl
  obtain ⟨t, g, N, many, rfl, T, hN, b1, b6, q⟩ := h
  refine ⟨_, pss_cons (ps_setLc (i := 2) (own := [("k", 4)]) (g := gName 4) (tt := tYes) (by rfl) scFar.nd rfl rfl (sw_true rfl rfl rfl (by decide +kernel)) (pi_range1 (by rfl) B.range (pa_cons (pv 1) pa_nil))
        (blkOk_by (N := nFar) (sc := defScope sFar) (by decide +kernel)) (fun _ _ _ _ _ => pg_name (i := 4) scFar.nd rfl (Or.inl rfl)) (fun _ _ _ _ _ => pts_nil)
        (fun _ _ _ _ _ => pe_ix (ix_list : IxR _ (rIxL K)) (pe_lst (pa_cons (pe_call D.ok hr (by rfl) D.m D.kp D.b .nil pass0 (pa_cons (pv 0) (pa_cons (pe_op op_pow pe_int pe_int) pa_nil))) (pa_cons (pe_call D.ok hr (by rfl) D.m D.kp D.b .nil pass0 (pa_cons (pv 0) (pa_cons pe_int pa_nil))) pa_nil)))
          (pe_call D.ok hr (by rfl) D.m D.kp D.b .nil pass0 (pa_cons (pv 0) (pa_cons pe_int pa_nil))) (fun _ _ => rfl)))
    (pss_cons (ps_set (i := 3) scFar.nd rfl (.inl rfl) (pe_call D.ok hr (by rfl) D.m D.kp D.b .nil pass0 (pa_cons (pv 0) (pa_cons (pv 1) pa_nil))))
    (pss_one (ps_ret (pe_tup (pa_cons (pv 3) (pa_cons (pe_op op_add (pe_ix ix_list (pv 2) (pv 3) (fun _ _ => rfl)) pe_int) (pa_cons (pe_callTy call_tuple_of (by rfl) B.tuple (by decide +kernel) (pa_cons (pv 2) pa_nil))
      (pa_cons (pe_tup (pa_cons pe_str (pa_cons pe_str (pa_cons (pe_call W.ok hr (by rfl) W.m W.kp W.b .nil pass0 (pa_cons (pv 0) pa_nil)) pa_nil)))) pa_nil)))))))), ?_⟩
  refine ⟨_, rfl, _, rfl, by omega, by omega, fun D' nD => ?_⟩
  have nDT := T.neT nD
  refine lc_range (lo := 0) (n := ((many : Nat) : Int).toNat) (fun i H' => ∃ ns : List Int, H' D' = some (.lst (ns.map V.int)) ∧ ns.length = i ∧ (∀ x ∈ ns, 0 ≤ x) ∧ TrayAt H' t g (N + 3 * i) ∧ Kp [t, g] H H')
    ⟨[], upd_same, rfl, by simp, T.same (same_new nD), .new nD⟩ ?_ ?_
  · rintro i H1 hi ⟨ns, hD, hl, h0, T1, kp1⟩
    refine ⟨rfl, _, rfl, _, _, rfl, rfl, ⟨by decide, by decide, by decide⟩, t, g, _, _, rfl, T1, by omega, by decide, by decide, fun H2 k2 h20 h21 T2 kp2 => ?_⟩
    refine ⟨_, rfl, t, g, _, 4, rfl, T2, by omega, by decide, by decide, fun H3 k3 h30 h31 T3 kp3 => ?_⟩
    refine ⟨(by show 2 ≤ sizeLine; decide), fun p np => ?_⟩
    refine ⟨_, rfl, t, g, _, 2, rfl, T3.same (same_new np), by omega, by decide, by decide, fun H4 k4 h40 h41 T4 kp4 => ?_⟩
    obtain ⟨z, ez, z0⟩ : ∃ z : Int, atI ([.int k2, .int k3] : List V) k4 = some (.int z) ∧ 0 ≤ z := by
      have e : k4 = 0 ∨ k4 = 1 := by omega
      rcases e with rfl | rfl
      · exact ⟨k2, rfl, h20⟩
      · exact ⟨k3, rfl, h30⟩
    have k14 : Kp [t, g] H1 H4 := ((kp2.trans kp3).trans (.new np)).trans kp4
    refine ⟨p, _, _, _, rfl, rfl, sqL (kp4.lst upd_same (T3.neT np)), ez, _, k14.lst hD nDT, ?_, ns ++ [z], ?_, ?_, ?_, (T4.over nDT).mono (by omega), (kp1.trans k14).over nD⟩
    · rw [List.length_map]
      exact small1000 (by omega)
    · rw [upd_same, List.map_append]
      rfl
    · rw [List.length_append, hl]
      rfl
    · intro c mc
      rcases List.mem_append.mp mc with mc | mc
      · exact h0 c mc
      · rw [List.mem_singleton.mp mc]
        exact z0
  rintro H1 ⟨ns, hD, hl, h0, T1, kp1⟩
  rw [Int.toNat_natCast] at hl T1
  refine ⟨_, rfl, _, rfl, t, g, _, many, rfl, T1, by omega, by omega, by omega, fun H2 who w0 w1 T2 kp2 => ?_⟩
  obtain ⟨wi, ewi⟩ : ∃ wi : Nat, who = (wi : Int) := ⟨who.toNat, by omega⟩
  obtain ⟨c, hc⟩ := get_some (l := ns) (i := wi) (by omega)
  have hD2 := kp2.lst hD nDT
  refine ⟨_, rfl, _, rfl, _, rfl, D', _, _, _, rfl, rfl, sqL hD2, at_of ewi (ints_at hc), _, _, rfl, rfl, _, rfl, D', _, rfl, .inl ⟨sqL hD2, fun n nn => ?_⟩⟩
  refine ⟨_, rfl, t, g, _, rfl, T2.same (same_new nn), by omega, fun H3 s ok T3 kp3 => ?_⟩
  refine ⟨(by show 3 ≤ sizeLine; decide), fun qa nq => (?_ : _ ∧ _)⟩
  refine ⟨(by show 4 ≤ sizeLine; decide), fun p np => ?_⟩
  have k2n : Kp [t, g] H2 (upd H2 n (.tup (ns.map V.int))) := .new nn
  have k3q : Kp [t, g] H3 (upd H3 qa (.tup [.str "use", .str "a", .str s])) := .new nq
  have k4p : Kp [t, g] (upd H3 qa (.tup [.str "use", .str "a", .str s])) (upd (upd H3 qa (.tup [.str "use", .str "a", .str s])) p (.tup [.int who, .int (c + 1), .ref n, .ref qa])) := .new np
  have kH : Kp [t, g] H _ := ((((kp1.trans kp2).trans k2n).trans kp3).trans k3q).trans k4p
  refine q _ p ⟨who, c + 1, ns, .use "a" s⟩ ?_ ⟨n, qa, upd_same, ?_, ?_⟩ hl h0 ⟨by decide +kernel, ok⟩ (((T3.same (same_new nq)).same (same_new np)).mono (by omega)) kH
  · exact ((((kp1.trans kp2).trans k2n).trans kp3).trans k3q).dm p np
  · exact k4p.tp _ _ (k3q.tp _ _ (kp3.tp _ _ upd_same))
  · exact k4p.tp _ _ upd_same
end
end FR

namespace FR
open PySem PySem.Spec PyProof.Rows L2
section
variable {P : Program} {w : World} {K : PySem.W.Frag} {mg : Str → Option Value} {base : Heap}
/-- a def that is called by keywords, too -/
structure CalK (K : PySem.W.Frag) (fd : FuncData) (ps ks : List Str) (g : List Value → List Value → List Value) (gV : List V → List V → List V) : Prop where
  b : KBn K fd ps 0 ks g gV
abbrev nRight : List Str := ["tray", "many", "act", "who", "number", "note", "what", "kept", "one", "k", "found"]
theorem scRight : FnScope nRight ["tray", "many", "act"] (defScope sRight) := ⟨rfl, rfl, rfl, by decide +kernel, rfl, by decide +kernel, by decide +kernel⟩
theorem ok_right {f fD fA fM fS fH : Addr} {fd fdD fdA fdM fdS fdH : FuncData} {k : Nat} (F : Fun K "_law_right" "_law_right" sRight f fd) (D : DrawC P w K mg base k fD fdD) (A3 : Cal P w K mg base k "_law_alike" ["found", "due"] (spAlike 3) fA fdA)
    (M : Cal P w K mg base k "mark" ["deed"] spMark fM fdM) (kM : KBn K fdM ["deed"] 0 ["deed"] kwsOnly kwsOnly) (S : Cal P w K mg base k "size" ["deed"] spSize fS fdS) (kS : KBn K fdS ["deed"] 0 ["deed"] kwsOnly kwsOnly)
    (U : Cal P w K mg base k "has_seen" ["deed", "mark"] spSeen fH fdH) (kU : KBn K fdH ["deed", "mark"] 0 ["mark", "deed"] swap2 swap2) (B : Blt mg) : FnOk P w K mg base CX0 (k + 1) f fd ["tray", "many", "act"] spRight := by
  refine F.ok scRight (fun vs H Q E h => ?_) (fun cdv A outer s H vs Q E hr h => ?_)
  · obtain ⟨t, g, p, N, many, a, rfl, _⟩ := h
    rfl
  obtain ⟨t, g, p, N, many, a, rfl, T, hN, b1, b6, ha, hl, h0, hf, q⟩ := h
  refine ⟨_, pss_cons (ps_asg (pv 2) (pg_tup rfl (pgs_cons (pg_name (i := 3) scRight.nd rfl (.inl rfl)) (pgs_cons (pg_name (i := 4) scRight.nd rfl (.inl rfl)) (pgs_cons (pg_name (i := 5) scRight.nd rfl (.inl rfl)) (pgs_cons (pg_name (i := 6) scRight.nd rfl (.inl rfl)) pgs_nil))))))
    (pss_cons (ps_set (i := 7) scRight.nd rfl (.inl rfl) (pe_tup (pa_cons (pv 3) (pa_cons (pv 4) (pa_cons (pv 5) (pa_cons (pv 6) pa_nil))))))
    (pss_cons (ps_if (PW.pt (pw_or (pt_not (pt_val (pe_call A3.ok hr (by rfl) A3.m A3.kp A3.b .nil pass0 (pa_cons (pe_lst (pa_cons (pe_call M.ok hr (by rfl) M.m M.kp M.b .nil pass0 (pa_cons (pv 2) pa_nil)) (pa_cons (pe_call S.ok hr (by rfl) S.m S.kp S.b .nil pass0 (pa_cons (pv 2) pa_nil)) pa_nil)))
            (pa_cons (pe_lst (pa_cons (pe_tup (pa_cons (pv 3) (pa_cons (pv 4) pa_nil))) (pa_cons (pe_callB (cr_sumT rfl) (by rfl) B.sum (by decide +kernel) (pa_cons (pv 5) pa_nil)) pa_nil))) pa_nil)))))
          (pw_or1 (pt_cmpR (op_neD hr.units) (pe_callKw M.ok hr (by rfl) M.m M.kp kM pass0 (pk_cons (pv 2) pk_nil)) (pe_tup (pa_cons (pv 3) (pa_cons (pv 4) pa_nil))) (nomark _))))) (pss_one (ps_ret pe_bl)) pss_nil)
    (pss_cons (ps_for PassesOwn.never rfl (pi_range1 (by rfl) B.range (pa_cons (pv 1) pa_nil)) (pg_name (i := 8) scRight.nd rfl (.inl rfl))
      (pss_one (ps_for PassesOwn.never rfl (pi_list (pe_callB (cr_sortedSet rfl) (by rfl) B.sorted (by decide +kernel) (pa_cons (pe_callTy (cr_setL rfl) (by rfl) B.set (by decide +kernel) (pa_cons
            (pe_lst (pa_cons pe_int (pa_cons (pe_callB (call_max2 rfl) (by rfl) B.max (by decide +kernel) (pa_cons pe_int (pa_cons (pe_ix ix_tup (pv 5) (pv 8) (fun _ _ => rfl)) pa_nil))) (pa_cons (pe_op op_add (pe_ix ix_tup (pv 5) (pv 8) (fun _ _ => rfl)) pe_int)
              (pa_cons (pe_op op_add (pe_ix ix_tup (pv 5) (pv 8) (fun _ _ => rfl)) pe_int) (pa_cons (pe_op op_add pe_int (pe_call D.ok hr (by rfl) D.m D.kp D.b .nil pass0 (pa_cons (pv 0) (pa_cons (pe_op op_pow pe_int pe_int) pa_nil)))) pa_nil)))))) pa_nil)) pa_nil))) (pg_name (i := 9) scRight.nd rfl (.inl rfl))
        (pss_cons (ps_set (i := 10) scRight.nd rfl (.inl rfl) (pe_call U.ok hr (by rfl) U.m U.kp U.b .nil pass0 (pa_cons (pv 2) (pa_cons (pe_tup (pa_cons (pv 8) (pa_cons (pv 9) pa_nil))) pa_nil))))
        (pss_one (ps_if (PW.pt (pw_or (pt_not (pt_val (pe_callB call_isi (by rfl) B.isi (by decide +kernel) (pa_cons (pv 10) (pa_cons (pe_bltn (v := .ty "bool") (u := .type "bool") (by rfl) B.bool (by decide +kernel) rfl) pa_nil)))))
            (pw_or (pt_cmpR op_ne (pv 10) (pe_cmpR op_le (pv 9) (pe_ix ix_tup (pv 5) (pv 8) (fun _ _ => rfl)) (nomark _)) (nomark _))
            (pw_or1 (pt_cmpR op_ne (pe_callKw U.ok hr (by rfl) U.m U.kp kU pass0 (pk_cons (pe_tup (pa_cons (pv 8) (pa_cons (pv 9) pa_nil))) (pk_cons (pv 2) pk_nil))) (pv 10) (nomark _)))))) (pss_one (ps_ret pe_bl)) pss_nil))))))
    (pss_one (ps_ret (pe_and (pe_cmpR (op_eqD hr.units) (pv 2) (pv 7) (nomark _)) (pe_one (pe_cmpR op_eq (pe_callKw S.ok hr (by rfl) S.m S.kp kS pass0 (pk_cons (pv 2) pk_nil)) (pe_callB (cr_sumT rfl) (by rfl) B.sum (by decide +kernel) (pa_cons (pv 5) pa_nil)) (nomark _))))))))), ?_⟩
  obtain ⟨n, qa, h1, h2, h3⟩ := id ha
  refine ⟨_, rfl, p, _, rfl, sqT h1, rfl, _, _, rfl, _, _, rfl, _, _, rfl, _, _, rfl, rfl, ?_⟩
  refine ⟨_, rfl, _, rfl, _, rfl, _, rfl, (by show 4 ≤ sizeLine; decide), fun kp nkp => ?_⟩
  have s0 := same_new (o := .tup [.int a.who, .int a.num, .ref n, .ref qa]) nkp
  have hk0 : upd H kp (.tup [.int a.who, .int a.num, .ref n, .ref qa]) kp = _ := upd_same
  generalize upd H kp (.tup [.int a.who, .int a.num, .ref n, .ref qa]) = H0 at s0 hk0
  have ha0 := ha.keep (S := []) (.of s0)
  refine ⟨_, rfl, p, a, rfl, ha0, fun mq H1 s1 nm em => ?_⟩
  have ha1 := ha0.keep (S := []) (.of s1)
  refine ⟨_, rfl, p, a, rfl, ha1, (by show 2 ≤ sizeLine; decide), fun l1 nl1 => ?_⟩
  have s2 := same_new (o := .lst [.ref mq, .int a.note.sum]) nl1
  refine ⟨_, rfl, _, rfl, (by show 2 ≤ sizeLine; decide), fun tq ntq => ?_⟩
  have s3 := same_new (o := .tup [.int a.who, .int a.num]) ntq
  have s03 := (s0.trans s1).trans (s2.trans s3)
  refine ⟨_, rfl, n, _, rfl, sqT (s03 _ _ h2), (by show 2 ≤ sizeLine; decide), fun l2 nl2 => ?_⟩
  have s4 := same_new (o := .lst [.ref tq, .int a.note.sum]) nl2
  refine ⟨_, _, rfl, ?_, fun H2 s5 => ?_⟩
  · refine .list ((s3.trans s4) _ _ upd_same) upd_same (by show 2 ≤ 1000; decide) (.cons (.tup ((s2.trans (s3.trans s4)) _ _ em) (s4 _ _ upd_same) (by show 2 ≤ 1000; decide) (.cons (.flat rfl) (.cons (.flat rfl) .nil))) (.cons (.flat rfl) .nil))
  refine ⟨true, rfl, iteF ?_⟩
  have s25 : Same H H2 := (s03.trans s4).trans s5
  refine ⟨_, rfl, rfl, rfl, p, a, rfl, ha.keep (S := []) (.of s25), fun q2 H3 s6 nq2 eq2 => ?_⟩
  refine ⟨_, rfl, _, rfl, (by show 2 ≤ sizeLine; decide), fun t2 nt2 => ?_⟩
  have s7 := same_new (o := .tup [.int a.who, .int a.num]) nt2
  refine ⟨.tuple [.int a.who, .int a.num], .tuple [.int a.who, .int a.num], .tup (sqT (s7 _ _ eq2)) (.cons (.int _) (.cons (.int _) .nil)), .tup (sqT upd_same) (.cons (.int _) (.cons (.int _) .nil)), two_shaped _ _, two_shaped _ _, _, rfl, ?_⟩
  rw [two_eqv]
  refine iteF ?_
  have s27 : Same H (upd H3 t2 (.tup [.int a.who, .int a.num])) := (s25.trans s6).trans s7
  have hk2 : (upd H3 t2 (.tup [.int a.who, .int a.num])) kp = _ := ((((s1.trans (s2.trans s3)).trans s4).trans s5).trans (s6.trans s7)) _ _ hk0
  generalize upd H3 t2 (.tup [.int a.who, .int a.num]) = H4 at s27 hk2
  refine ⟨_, rfl, _, rfl, by omega, by omega, for_range (lo := 0) (n := ((many : Nat) : Int).toNat) (fun i σ H' => ∃ v8 v9 v10, σ = [some (.ref t), some (.int (many : Int)), some (.ref p), some (.int a.who), some (.int a.num), some (.ref n), some (.ref qa), some (.ref kp), v8, v9, v10] ∧ Kp [t, g] H4 H' ∧ TrayAt H' t g (N + i))
    ⟨none, none, none, rfl, .refl _ _, T.same s27⟩ ?_ ?_⟩
  · rintro i σ H5 hi ⟨v8, v9, v10, rfl, k5, T5⟩
    rw [Int.toNat_natCast] at hi
    obtain ⟨x, hx⟩ := get_some (l := a.note) (i := i) (by omega)
    have kH5 : Kp [t, g] H H5 := (Kp.of s27).trans k5
    have ax : atI (a.note.map V.int) (0 + (i : Int)) = some (.int x) := at_of (by omega) (ints_at hx)
    have n5 := kH5.tp _ _ h2
    refine ⟨_, rfl, _, rfl, n, _, _, _, rfl, rfl, sqT n5, ax, _, _, rfl, _, rfl, _, rfl, n, _, _, _, rfl, rfl, sqT n5, ax, _, _, rfl, rfl, _, rfl, _, rfl, n, _, _, _, rfl, rfl, sqT n5, ax, _, _, rfl, rfl, _, rfl, _, _, rfl, rfl, ⟨by decide, by decide, by decide⟩, t, g, _, _, rfl, T5, by omega, by decide, by decide, fun H6 d hd0 hd1 T6 k6 => ?_⟩
    refine ⟨_, _, rfl, rfl, (by show 5 ≤ sizeLine; decide), fun l nl => ?_⟩
    have k7 : Kp [t, g] H6 _ := .new (o := .lst (([1, if x > 1 then x else 1, x + 1, x + 2, 1 + d] : List Int).map V.int)) nl
    refine ⟨l, [1, if x > 1 then x else 1, x + 1, x + 2, 1 + d], rfl, sqL upd_same, (by show 6 < scanBound; decide), fun st c ns hc => ?_⟩
    have hc5 : c ≤ 5 := hc
    have k8 : Kp [t, g] (upd H6 l (.lst (([1, if x > 1 then x else 1, x + 1, x + 2, 1 + d] : List Int).map V.int))) _ := .new (o := SetO w st (fun j => decide (j ∈ ([1, if x > 1 then x else 1, x + 1, x + 2, 1 + d] : List Int))) c) ns
    refine ⟨st, _, _, rfl, upd_same, by omega, fun ks sl hup hmem hlen nsl => ?_⟩
    have k9 : Kp [t, g] _ _ := (k6.trans k7).trans (k8.trans (.new (o := .lst (ks.map V.int)) nsl))
    have T9 := ((T6.same (same_new nl)).same (same_new (o := SetO w st (fun j => decide (j ∈ ([1, if x > 1 then x else 1, x + 1, x + 2, 1 + d] : List Int))) c) ns)).same (same_new (o := .lst (ks.map V.int)) nsl)
    have hx0 : 0 ≤ x := h0 x (List.mem_of_getElem? hx)
    have hks : ∀ z ∈ ks, 1 ≤ z := fun z mz => by
      have q := of_decide_eq_true ((hmem z).1 mz)
      simp only [List.mem_cons, List.not_mem_nil, or_false] at q
      rcases q with rfl | rfl | rfl | rfl | rfl
      · omega
      · split <;> omega
      · omega
      · omega
      · omega
    refine ⟨sl, rfl, ⟨_, sqL upd_same⟩, for_list (K := K) (a := sl) (xs := ks.map V.int) (fun j σ H' => ∃ v9 v10, σ = [some (.ref t), some (.int (many : Int)), some (.ref p), some (.int a.who), some (.int a.num), some (.ref n), some (.ref qa), some (.ref kp), some (.int (0 + (i : Int))), v9, v10] ∧ Kp [t, g] H4 H' ∧ TrayAt H' t g (N + i + 1) ∧ H' sl = some (.lst (ks.map V.int)))
      ⟨_, _, rfl, k5.trans k9, T9, upd_same⟩ (fun j σ H' _ ⟨_, _, _, _, _, h⟩ => sqL h) ?_ ?_⟩
    · rintro j y σ H7 hj ⟨v9, v10, rfl, k10, T10, hsl⟩
      obtain ⟨z, hz, rfl⟩ := map_int_at hj
      have hz1 := hks z (List.mem_of_getElem? hz)
      have kH7 : Kp [t, g] H H7 := (Kp.of s27).trans k10
      refine ⟨_, rfl, _, rfl, _, rfl, (by show 2 ≤ sizeLine; decide), fun m nm => ?_⟩
      have k11 : Kp [t, g] H7 (upd H7 m (.tup [.int (0 + (i : Int)), .int z])) := .new nm
      refine ⟨p, m, a, 0 + (i : Int), z, rfl, ha.keep (kH7.trans k11), upd_same, ?_⟩
      have es : a.seen (0 + (i : Int)) z = decide (z ≤ x) := by
        have e0 : (0 + (i : Int)).toNat = i := by omega
        unfold Act.seen
        rw [e0, show a.note.getD i 0 = x by simp [List.getD, hx], decide_eq_true (show (0 : Int) ≤ 0 + (i : Int) by omega), decide_eq_true (show 0 + (i : Int) < (a.note.length : Int) by omega), decide_eq_true hz1]
        rfl
      rw [es]
      refine ⟨_, rfl, _, _, _, _, true, rfl, .ty _, .base (.bl _), kit_ty (by decide +kernel), _, rfl, iteF ?_⟩
      refine ⟨_, rfl, _, rfl, _, rfl, _, rfl, n, _, _, _, rfl, rfl, sqT ((kH7.trans k11).tp _ _ h2), ax, _, _, rfl, rfl, rfl, _, rfl, iteNS rfl ?_⟩
      refine ⟨_, rfl, _, rfl, (by show 2 ≤ sizeLine; decide), fun m2 nm2 => ⟨_, rfl, rfl, rfl, ?_⟩⟩
      have k12 : Kp [t, g] (upd H7 m (.tup [.int (0 + (i : Int)), .int z])) (upd (upd H7 m (.tup [.int (0 + (i : Int)), .int z])) m2 (.tup [.int (0 + (i : Int)), .int z])) := .new nm2
      refine ⟨p, m2, a, 0 + (i : Int), z, rfl, ha.keep ((kH7.trans k11).trans k12), upd_same, _, rfl, rfl, _, rfl, ?_⟩
      rw [es]
      refine iteNS rfl ?_
      refine ⟨_, _, rfl, k10.trans (k11.trans k12), (T10.same (same_new nm)).same (same_new nm2), ?_⟩
      exact same_new nm2 _ _ (same_new nm _ _ hsl)
    · rintro σ H7 ⟨v9, v10, rfl, k10, T10, hsl⟩
      exact ⟨_, _, _, rfl, k10, T10⟩
  · rintro σ H5 ⟨v8, v9, v10, rfl, k5, T5⟩
    rw [Int.toNat_natCast] at T5
    have kH5 : Kp [t, g] H H5 := (Kp.of s27).trans k5
    have ha5 := ha.keep kH5
    refine ⟨_, rfl, _, rfl, a.data, a.data, ha5.dp, .tup (sqT (k5.tp _ _ hk2)) (.cons (.int _) (.cons (.int _) (.cons (.tup (sqT (kH5.tp _ _ h2)) (dpInts _)) (.cons (.tup (sqT (kH5.tp _ _ h3)) a.what.dp) .nil)))), Act.shaped hf, Act.shaped hf, _, rfl, ?_⟩
    rw [Act.eqv hf]
    refine iteT ⟨_, rfl, rfl, rfl, p, a, rfl, ha5, _, rfl, n, _, rfl, sqT (kH5.tp _ _ h2), rfl, ?_⟩
    rw [decide_eq_true rfl]
    exact q _ (T5.mono (by omega)) kH5
end
end FR

namespace FR
open PySem PySem.Spec PyProof.Rows L2
section
variable {P : Program} {w : World} {K : PySem.W.Frag} {mg : Str → Option Value} {base : Heap}
/-- a deed that the law's look is asked of -/
def Good (many : Nat) (H : Hp) (p : Addr) : Prop := ∃ a, ActAt H p a ∧ a.note.length = many ∧ (∀ x ∈ a.note, 0 ≤ x) ∧ a.what.Fit
theorem Good.keep {many : Nat} {S : List Addr} {H H' : Hp} {p : Addr} (h : Good many H p) (k : Kp S H H') : Good many H' p := by
  obtain ⟨a, h1, h2⟩ := h
  exact ⟨a, h1.keep k, h2⟩
abbrev nLaw : List Str := ["script", "tray", "many", "acts", "act", "k"]
theorem scLaw : FnScope nLaw ["script"] (defScope sLaw) := ⟨rfl, rfl, rfl, by decide +kernel, rfl, by decide +kernel, by decide +kernel⟩
theorem ok_law {f fT fM fW fF fR : Addr} {fd fdT fdM fdW fdF fdR : FuncData} {k : Nat} (F : Fun K "law" "law" sLaw f fd) (T : Cal P w K mg base k "_law_tray" ["script"] (spTray K) fT fdT) (M : Cal P w K mg base k "_law_most" ["tray"] spMost fM fdM)
    (W : Cal P w K mg base k "_law_world" ["tray", "most"] spWorld fW fdW) (L : Cal P w K mg base k "_law_far" ["tray", "many"] spFar fF fdF) (R : Cal P w K mg base k "_law_right" ["tray", "many", "act"] spRight fR fdR) (B : Blt mg) : FnOk P w K mg base CX0 (k + 1) f fd ["script"] (spLaw K) := by
  refine F.ok scLaw (fun vs H Q E h => ?_) (fun cdv A outer s H vs Q E hr h => ?_)
  · obtain ⟨a, ns, rfl, _⟩ := h
    rfl
  obtain ⟨a, ns, rfl, hS, h63, q⟩ := h
  refine ⟨_, pss_cons (ps_set (i := 1) scLaw.nd rfl (.inr rfl) (pe_call T.ok hr (by rfl) T.m T.kp T.b .nil pass0 (pa_cons (pv 0) pa_nil)))
    (pss_cons (ps_asg (pe_call W.ok hr (by rfl) W.m W.kp W.b .nil pass0 (pa_cons (pv 1) (pa_cons (pe_call M.ok hr (by rfl) M.m M.kp M.b .nil pass0 (pa_cons (pv 1) pa_nil)) pa_nil)))
        (pg_unl rfl (pgs_cons (pg_name (i := 2) scLaw.nd rfl (.inr rfl)) (pgs_cons (pg_name (i := 3) scLaw.nd rfl (.inl rfl)) pgs_nil))))
    (pss_cons (ps_for PassesOwn.never rfl (pi_list (pe_op op_cat (pe_slice sl_list (pv 3) po_none (po_some pe_int)) (pe_lc (own := [("k", 5)]) (g := gName 5) (tt := tYes) rfl scLaw.nd (pi_range1 (by rfl) B.range (pa_cons pe_int pa_nil))
          (blkOk_by (N := nLaw) (sc := defScope sLaw) (by decide +kernel)) (fun _ _ _ _ _ => pg_name (i := 5) scLaw.nd rfl (Or.inl rfl)) (fun _ _ _ _ _ => pts_nil)
          (fun _ _ _ _ _ => pe_call L.ok hr (by rfl) L.m L.kp L.b .nil pass0 (pa_cons (pv 1) (pa_cons (pv 2) pa_nil)))))) (pg_name (i := 4) scLaw.nd rfl (.inl rfl))
      (pss_one (ps_if (pt_not (pt_val (pe_call R.ok hr (by rfl) R.m R.kp R.b .nil pass0 (pa_cons (pv 1) (pa_cons (pv 2) (pa_cons (pv 4) pa_nil)))))) (pss_one (ps_ret pe_bl)) pss_nil)))
    (pss_one (ps_ret pe_bl)))), ?_⟩
  refine ⟨_, rfl, a, ns, rfl, hS, h63, fun t g H1 s1 nt ng T1 => ?_⟩
  refine ⟨_, rfl, _, rfl, t, g, 0, rfl, T1, by decide, fun H2 most m0 m110 T2 k2 => ?_⟩
  refine ⟨t, g, 1, most, rfl, T2, m0, by omega, by decide, fun H3 r ac ps many acts known b1 b6 hlen wd nr nac nrT nacT hr3 hac ha T3 k3 => ?_⟩
  refine ⟨r, _, rfl, sqL hr3, rfl, _, _, rfl, _, _, rfl, rfl, ?_⟩
  have hpl := paired_len ha
  have good3 : ∀ p ∈ ps, Good many H3 p := fun p mp => by
    obtain ⟨j, hj⟩ := List.getElem?_of_mem mp
    obtain ⟨x, hx, h⟩ := paired_at ha hj
    have q := wd.plain x (List.mem_of_getElem? hx)
    exact ⟨x, h, q⟩
  -- acts[:40] + [..]
  refine ⟨_, rfl, 40, rfl, ac, _, rfl, sqL hac, fun l nl => ?_⟩
  rw [show (40 : Int) = ((40 : Nat) : Int) from rfl, cut_take, ← List.map_take]
  have k4 : Kp [t, g] H3 (upd H3 l (.lst ((ps.take 40).map V.ref))) := .new nl
  have T4 := T3.same (same_new (o := .lst ((ps.take 40).map V.ref)) nl)
  have hl4 : upd H3 l (.lst ((ps.take 40).map V.ref)) l = _ := upd_same
  have nlT := T3.neT nl
  generalize upd H3 l (.lst ((ps.take 40).map V.ref)) = H4 at k4 T4 hl4
  refine ⟨2, rfl, by decide, by decide, fun D nD => ?_⟩
  have nDT := T4.neT nD
  refine lc_range (lo := 0) (n := 2) (fun i H' => ∃ qs : List Addr, H' D = some (.lst (qs.map V.ref)) ∧ qs.length = i ∧ (∀ p ∈ qs, Good many H' p) ∧ TrayAt H' t g (2401 + 100 * i) ∧ Kp [t, g] H4 H') ⟨[], upd_same, rfl, by simp, (T4.same (same_new nD)).mono (by omega), .new nD⟩ ?_ ?_
  · rintro i H5 hi ⟨qs, hD, hl, hg, T5, k5⟩
    refine ⟨rfl, _, rfl, _, rfl, t, g, _, many, rfl, T5, by omega, b1, b6, fun H6 p x np hx h1 h2 h3 T6 k6 => ?_⟩
    have k7 : Kp [D] H6 (upd H6 D (.lst (qs.map V.ref ++ [.ref p]))) := .set (k6.lst hD nDT) (by simp)
    refine ⟨_, k6.lst hD nDT, ?_, qs ++ [p], ?_, ?_, fun y my => ?_, (T6.over nDT).mono (by omega), (k5.trans k6).over nD⟩
    · rw [List.length_map]
      exact small1000 (by omega)
    · rw [upd_same, List.map_append]
      rfl
    · rw [List.length_append, hl]
      rfl
    · rcases List.mem_append.mp my with my | my
      · exact ((hg y my).keep k6).keep k7
      · rw [List.mem_singleton.mp my]
        exact Good.keep ⟨x, hx, h1, h2, h3⟩ k7
  rintro H5 ⟨qs, hD, hl, hg, T5, k5⟩
  have hl5 := k5.lst hl4 nlT
  have good5 : ∀ p ∈ ps.take 40 ++ qs, Good many H5 p := fun p mp => by
    rcases List.mem_append.mp mp with mp | mp
    · exact ((good3 p (List.mem_of_mem_take mp)).keep k4).keep k5
    · exact hg p mp
  have sz : ((ps.take 40).map V.ref).length ≤ 40 := by
    rw [List.length_map, List.length_take]
    omega
  refine ⟨l, D, _, _, rfl, rfl, hl5, hD, ?_, fun l2 nl2 => ?_⟩
  · have e2 : (qs.map V.ref).length = 2 := by rw [List.length_map, hl]
    rw [e2]
    exact Nat.le_of_lt (small1000 (by omega))
  rw [← List.map_append]
  have nl2T := T5.neT nl2
  refine ⟨l2, rfl, ⟨_, sqL upd_same⟩, for_list (K := K) (a := l2) (xs := (ps.take 40 ++ qs).map V.ref) (fun i σ H' => ∃ v4, σ = [some (.ref a), some (.ref t), some (.int (many : Int)), some (.ref ac), v4, none] ∧ TrayAt H' t g (2601 + 100 * i) ∧ H' l2 = some (.lst ((ps.take 40 ++ qs).map V.ref)) ∧ ∀ p ∈ ps.take 40 ++ qs, Good many H' p)
    ⟨none, rfl, T5.same (same_new nl2), upd_same, fun p mp => (good5 p mp).keep (S := []) (.new nl2)⟩ (fun i σ H' _ ⟨_, _, _, h, _⟩ => sqL h) ?_ ?_⟩
  · rintro i y σ H6 hi ⟨v4, rfl, T6, hl6, g6⟩
    have hi42 : i < 42 := by
      have q := (List.getElem?_eq_some_iff.mp hi).1
      rw [List.length_map, List.length_append, List.length_take] at q
      omega
    rw [List.getElem?_map] at hi
    obtain ⟨p, hp, rfl⟩ := Option.map_eq_some_iff.mp hi
    obtain ⟨x, hx, h1, h2, h3⟩ := g6 p (List.mem_of_getElem? hp)
    refine ⟨_, rfl, _, rfl, _, rfl, t, g, p, _, many, x, rfl, T6, by omega, b1, b6, hx, h1, h2, h3, fun H7 T7 k7 => ⟨true, rfl, iteF ⟨_, rfl, T7.mono (by omega), k7.lst hl6 nl2T, fun p mp => (g6 p mp).keep k7⟩⟩⟩
  · rintro σ H6 ⟨v4, rfl, T6, hl6, g6⟩
    exact q _
end
end FR

namespace FR
open PySem L2
theorem alike0 {P : Program} {w : World} {K : PySem.W.Frag} {mg : Str → Option Value} {base : Heap} {f : Addr} {fd : FuncData} : FnOk P w K mg base CX0 0 f fd ["found", "due"] (spAlike 0) := by
  have no : ∀ vs H Q E, ¬ spAlike 0 vs H Q E := fun vs H Q E h => by
    obtain ⟨x, y, _, h, _⟩ := h
    exact h
  exact ⟨fun vs H Q E h => absurd h (no vs H Q E), fun A outer s H args us vs Q E _ _ _ _ h => absurd h (no vs H Q E)⟩
theorem all_mk {l : PySem.W.OpenLaw} {w : World} {K : PySem.W.Frag} {h : Heap} {mg : Str → Option Value} {fa f1 f2 f3 f4 f5 f6 f7 f8 f9 f10 f11 f12 f13 : Addr} (X : K.In h) (G : h.Ns mainGlobals mg) (hfa : mg "law" = some (.ref fa))
    {od1 an1 od2 an2 od3 an3 od4 an4 od5 an5 od6 an6 od7 an7 od8 an8 od9 an9 od10 an10 od11 an11 od12 an12 od13 an13 : Option Addr} {sl1 sl2 sl3 sl4 sl5 sl6 sl7 sl8 sl9 sl10 sl11 sl12 sl13 : Array (Option Value)}
    {oc1 kV1 dc1 pm1 cd1 ct1 oc2 kV2 dc2 pm2 cd2 ct2 oc3 kV3 dc3 pm3 cd3 ct3 oc4 kV4 dc4 pm4 cd4 ct4 oc5 kV5 dc5 pm5 cd5 ct5 oc6 kV6 dc6 pm6 cd6 ct6 oc7 kV7 dc7 pm7 cd7 ct7 oc8 kV8 dc8 pm8 cd8 ct8 oc9 kV9 dc9 pm9 cd9 ct9 oc10 kV10 dc10 pm10 cd10 ct10 oc11 kV11 dc11 pm11 cd11 ct11 oc12 kV12 dc12 pm12 cd12 ct12 oc13 kV13 dc13 pm13 cd13 ct13 : Value}
    (a1 : PySem.W.nsIn K mainGlobals "mark" = some (some (.ref f1))) (l1 : K.lookup f1 = some ⟨oc1, od1, .func (PySem.W.fnOf "mark" "mark" (defArgs sMark) (defBody sMark) (defScope sMark) .none kV1 dc1 pm1 an1 cd1 ct1), sl1⟩)
    (c1 : PySem.W.codeIn K cd1 "mark" = true) (k1 : PySem.W.keepIn K (.ref f1) = true)
    (a2 : PySem.W.nsIn K mainGlobals "size" = some (some (.ref f2))) (l2 : K.lookup f2 = some ⟨oc2, od2, .func (PySem.W.fnOf "size" "size" (defArgs sSize) (defBody sSize) (defScope sSize) .none kV2 dc2 pm2 an2 cd2 ct2), sl2⟩)
    (c2 : PySem.W.codeIn K cd2 "size" = true) (k2 : PySem.W.keepIn K (.ref f2) = true)
    (a3 : PySem.W.nsIn K mainGlobals "has_seen" = some (some (.ref f3))) (l3 : K.lookup f3 = some ⟨oc3, od3, .func (PySem.W.fnOf "has_seen" "has_seen" (defArgs sSeen) (defBody sSeen) (defScope sSeen) .none kV3 dc3 pm3 an3 cd3 ct3), sl3⟩)
    (c3 : PySem.W.codeIn K cd3 "has_seen" = true) (k3 : PySem.W.keepIn K (.ref f3) = true)
    (a4 : PySem.W.nsIn K mainGlobals "_law_tray" = some (some (.ref f4))) (l4 : K.lookup f4 = some ⟨oc4, od4, .func (PySem.W.fnOf "_law_tray" "_law_tray" (defArgs sTray) (defBody sTray) (defScope sTray) .none kV4 dc4 pm4 an4 cd4 ct4), sl4⟩)
    (c4 : PySem.W.codeIn K cd4 "_law_tray" = true) (k4 : PySem.W.keepIn K (.ref f4) = true)
    (a5 : PySem.W.nsIn K mainGlobals "_law_draw" = some (some (.ref f5))) (l5 : K.lookup f5 = some ⟨oc5, od5, .func (PySem.W.fnOf "_law_draw" "_law_draw" (defArgs sDraw) (defBody sDraw) (defScope sDraw) .none kV5 dc5 pm5 an5 cd5 ct5), sl5⟩)
    (c5 : PySem.W.codeIn K cd5 "_law_draw" = true) (k5 : PySem.W.keepIn K (.ref f5) = true)
    (a6 : PySem.W.nsIn K mainGlobals "_law_alike" = some (some (.ref f6))) (l6 : K.lookup f6 = some ⟨oc6, od6, .func (PySem.W.fnOf "_law_alike" "_law_alike" (defArgs sAlike) (defBody sAlike) (defScope sAlike) .none kV6 dc6 pm6 an6 cd6 ct6), sl6⟩)
    (c6 : PySem.W.codeIn K cd6 "_law_alike" = true) (k6 : PySem.W.keepIn K (.ref f6) = true)
    (a7 : PySem.W.nsIn K mainGlobals "_law_word" = some (some (.ref f7))) (l7 : K.lookup f7 = some ⟨oc7, od7, .func (PySem.W.fnOf "_law_word" "_law_word" (defArgs sWord) (defBody sWord) (defScope sWord) .none kV7 dc7 pm7 an7 cd7 ct7), sl7⟩)
    (c7 : PySem.W.codeIn K cd7 "_law_word" = true) (k7 : PySem.W.keepIn K (.ref f7) = true)
    (a8 : PySem.W.nsIn K mainGlobals "_law_what" = some (some (.ref f8))) (l8 : K.lookup f8 = some ⟨oc8, od8, .func (PySem.W.fnOf "_law_what" "_law_what" (defArgs sWhat) (defBody sWhat) (defScope sWhat) .none kV8 dc8 pm8 an8 cd8 ct8), sl8⟩)
    (c8 : PySem.W.codeIn K cd8 "_law_what" = true) (k8 : PySem.W.keepIn K (.ref f8) = true)
    (a9 : PySem.W.nsIn K mainGlobals "_law_world" = some (some (.ref f9))) (l9 : K.lookup f9 = some ⟨oc9, od9, .func (PySem.W.fnOf "_law_world" "_law_world" (defArgs sWorld) (defBody sWorld) (defScope sWorld) .none kV9 dc9 pm9 an9 cd9 ct9), sl9⟩)
    (c9 : PySem.W.codeIn K cd9 "_law_world" = true) (k9 : PySem.W.keepIn K (.ref f9) = true)
    (a10 : PySem.W.nsIn K mainGlobals "_law_most" = some (some (.ref f10))) (l10 : K.lookup f10 = some ⟨oc10, od10, .func (PySem.W.fnOf "_law_most" "_law_most" (defArgs sMost) (defBody sMost) (defScope sMost) .none kV10 dc10 pm10 an10 cd10 ct10), sl10⟩)
    (c10 : PySem.W.codeIn K cd10 "_law_most" = true) (k10 : PySem.W.keepIn K (.ref f10) = true)
    (a11 : PySem.W.nsIn K mainGlobals "_law_far" = some (some (.ref f11))) (l11 : K.lookup f11 = some ⟨oc11, od11, .func (PySem.W.fnOf "_law_far" "_law_far" (defArgs sFar) (defBody sFar) (defScope sFar) .none kV11 dc11 pm11 an11 cd11 ct11), sl11⟩)
    (c11 : PySem.W.codeIn K cd11 "_law_far" = true) (k11 : PySem.W.keepIn K (.ref f11) = true)
    (a12 : PySem.W.nsIn K mainGlobals "_law_right" = some (some (.ref f12))) (l12 : K.lookup f12 = some ⟨oc12, od12, .func (PySem.W.fnOf "_law_right" "_law_right" (defArgs sRight) (defBody sRight) (defScope sRight) .none kV12 dc12 pm12 an12 cd12 ct12), sl12⟩)
    (c12 : PySem.W.codeIn K cd12 "_law_right" = true) (k12 : PySem.W.keepIn K (.ref f12) = true)
    (a13 : PySem.W.nsIn K mainGlobals "law" = some (some (.ref f13))) (l13 : K.lookup f13 = some ⟨oc13, od13, .func (PySem.W.fnOf "law" "law" (defArgs sLaw) (defBody sLaw) (defScope sLaw) .none kV13 dc13 pm13 an13 cd13 ct13), sl13⟩)
    (c13 : PySem.W.codeIn K cd13 "law" = true) (k13 : PySem.W.keepIn K (.ref f13) = true)
    (z1 : PySem.W.nsIn K mainGlobals "len" = some none)
    (z2 : PySem.W.nsIn K mainGlobals "range" = some none)
    (z3 : PySem.W.nsIn K mainGlobals "isinstance" = some none)
    (z4 : PySem.W.nsIn K mainGlobals "bool" = some none)
    (z5 : PySem.W.nsIn K mainGlobals "int" = some none)
    (z6 : PySem.W.nsIn K mainGlobals "str" = some none)
    (z7 : PySem.W.nsIn K mainGlobals "list" = some none)
    (z8 : PySem.W.nsIn K mainGlobals "tuple" = some none)
    (z9 : PySem.W.nsIn K mainGlobals "sum" = some none)
    (z10 : PySem.W.nsIn K mainGlobals "sorted" = some none)
    (z11 : PySem.W.nsIn K mainGlobals "set" = some none)
    (z12 : PySem.W.nsIn K mainGlobals "max" = some none)
    (z13 : PySem.W.nsIn K mainGlobals "zip" = some none)
    : ∃ fd : FuncData, (∀ (s : Shared) (v : Value), BindsTo s fd ⟨[v], []⟩ [("script", v)]) ∧ ∀ base : Heap, K.In base → base.Ns mainGlobals mg → FnOk l.prog w K mg base CX0 7 fa fd ["script"] (spLaw K) := by
  have e := hfa.symm.trans (PySem.W.mg_of X G a13)
  cases e
  have F1 := fun_mk (st := sMark) l1 c1 k1
  have m1 := PySem.W.mg_of X G a1
  have b1 := F1.binds (ps := ["deed"]) fun _ _ _ _ _ _ us hl => match us, hl with | [_], _ => rfl
  have F2 := fun_mk (st := sSize) l2 c2 k2
  have m2 := PySem.W.mg_of X G a2
  have b2 := F2.binds (ps := ["deed"]) fun _ _ _ _ _ _ us hl => match us, hl with | [_], _ => rfl
  have F3 := fun_mk (st := sSeen) l3 c3 k3
  have m3 := PySem.W.mg_of X G a3
  have b3 := F3.binds (ps := ["deed", "mark"]) fun _ _ _ _ _ _ us hl => match us, hl with | [_, _], _ => rfl
  have F4 := fun_mk (st := sTray) l4 c4 k4
  have m4 := PySem.W.mg_of X G a4
  have b4 := F4.binds (ps := ["script"]) fun _ _ _ _ _ _ us hl => match us, hl with | [_], _ => rfl
  have F5 := fun_mk (st := sDraw) l5 c5 k5
  have m5 := PySem.W.mg_of X G a5
  have b5 := F5.binds (ps := ["tray", "many"]) fun _ _ _ _ _ _ us hl => match us, hl with | [_, _], _ => rfl
  have F6 := fun_mk (st := sAlike) l6 c6 k6
  have m6 := PySem.W.mg_of X G a6
  have b6 := F6.binds (ps := ["found", "due"]) fun _ _ _ _ _ _ us hl => match us, hl with | [_, _], _ => rfl
  have F7 := fun_mk (st := sWord) l7 c7 k7
  have m7 := PySem.W.mg_of X G a7
  have b7 := F7.binds (ps := ["tray"]) fun _ _ _ _ _ _ us hl => match us, hl with | [_], _ => rfl
  have F8 := fun_mk (st := sWhat) l8 c8 k8
  have m8 := PySem.W.mg_of X G a8
  have b8 := F8.binds (ps := ["tray", "who", "many", "mights"]) fun _ _ _ _ _ _ us hl => match us, hl with | [_, _, _, _], _ => rfl
  have F9 := fun_mk (st := sWorld) l9 c9 k9
  have m9 := PySem.W.mg_of X G a9
  have b9 := F9.binds (ps := ["tray", "most"]) fun _ _ _ _ _ _ us hl => match us, hl with | [_, _], _ => rfl
  have F10 := fun_mk (st := sMost) l10 c10 k10
  have m10 := PySem.W.mg_of X G a10
  have b10 := F10.binds (ps := ["tray"]) fun _ _ _ _ _ _ us hl => match us, hl with | [_], _ => rfl
  have F11 := fun_mk (st := sFar) l11 c11 k11
  have m11 := PySem.W.mg_of X G a11
  have b11 := F11.binds (ps := ["tray", "many"]) fun _ _ _ _ _ _ us hl => match us, hl with | [_, _], _ => rfl
  have F12 := fun_mk (st := sRight) l12 c12 k12
  have m12 := PySem.W.mg_of X G a12
  have b12 := F12.binds (ps := ["tray", "many", "act"]) fun _ _ _ _ _ _ us hl => match us, hl with | [_, _, _], _ => rfl
  have F13 := fun_mk (st := sLaw) l13 c13 k13
  have m13 := PySem.W.mg_of X G a13
  have y1 := PySem.W.mg_none_of X G z1
  have y2 := PySem.W.mg_none_of X G z2
  have y3 := PySem.W.mg_none_of X G z3
  have y4 := PySem.W.mg_none_of X G z4
  have y5 := PySem.W.mg_none_of X G z5
  have y6 := PySem.W.mg_none_of X G z6
  have y7 := PySem.W.mg_none_of X G z7
  have y8 := PySem.W.mg_none_of X G z8
  have y9 := PySem.W.mg_none_of X G z9
  have y10 := PySem.W.mg_none_of X G z10
  have y11 := PySem.W.mg_none_of X G z11
  have y12 := PySem.W.mg_none_of X G z12
  have y13 := PySem.W.mg_none_of X G z13
  refine ⟨PySem.W.fnOf "law" "law" (defArgs sLaw) (defBody sLaw) (defScope sLaw) .none kV13 dc13 pm13 an13 cd13 ct13, fun s v => .of_eq rfl, fun base _ _ => ?_⟩
  have B : Blt mg := ⟨y1, y2, y3, y4, y5, y6, y7, y8, y9, y10, y11, y12, y13⟩
  have CM : Cal l.prog w K mg base 5 "mark" ["deed"] spMark f1 _ := ⟨ok_mark F1, m1, k1, b1⟩
  have CS : Cal l.prog w K mg base 5 "size" ["deed"] spSize f2 _ := ⟨ok_size F2 B, m2, k2, b2⟩
  have CH : Cal l.prog w K mg base 5 "has_seen" ["deed", "mark"] spSeen f3 _ := ⟨ok_seen F3 B, m3, k3, b3⟩
  have KM := kbn_of (ks := ["deed"]) (ps := ["deed"]) (g := kwsOnly) (gV := kwsOnly) F1 0 (fun _ _ _ _ _ _ us ws h1 h2 => match us, ws, h1, h2 with | [], [_], _, _ => rfl) kwsOnly_rel
  have KSz := kbn_of (ks := ["deed"]) (ps := ["deed"]) (g := kwsOnly) (gV := kwsOnly) F2 0 (fun _ _ _ _ _ _ us ws h1 h2 => match us, ws, h1, h2 with | [], [_], _, _ => rfl) kwsOnly_rel
  have KH := kbn_of (ks := ["mark", "deed"]) (ps := ["deed", "mark"]) (g := swap2) (gV := swap2) F3 0 (fun _ _ _ _ _ _ us ws h1 h2 => match us, ws, h1, h2 with | [], [_, _], _, _ => rfl) swap2_rel
  have CT : Cal l.prog w K mg base 6 "_law_tray" ["script"] (spTray K) f4 _ := ⟨ok_tray F4 B.max, m4, k4, b4⟩
  have D1 : DrawC l.prog w K mg base 1 f5 _ := ⟨ok_draw F5, m5, k5, b5⟩
  have D5 : DrawC l.prog w K mg base 5 f5 _ := ⟨ok_draw F5, m5, k5, b5⟩
  have A0 : Cal l.prog w K mg base 0 "_law_alike" ["found", "due"] (spAlike 0) f6 _ := ⟨alike0, m6, k6, b6⟩
  have A1 : Cal l.prog w K mg base 1 "_law_alike" ["found", "due"] (spAlike 1) f6 _ := ⟨ok_alike F6 A0 B, m6, k6, b6⟩
  have A2 : Cal l.prog w K mg base 2 "_law_alike" ["found", "due"] (spAlike 2) f6 _ := ⟨ok_alike F6 A1 B, m6, k6, b6⟩
  have A3 : Cal l.prog w K mg base 3 "_law_alike" ["found", "due"] (spAlike 3) f6 _ := ⟨ok_alike F6 A2 B, m6, k6, b6⟩
  have W2 : Cal l.prog w K mg base 2 "_law_word" ["tray"] spWord f7 _ := ⟨ok_word F7 D1 B.range, m7, k7, b7⟩
  have D2 : DrawC l.prog w K mg base 2 f5 _ := ⟨ok_draw F5, m5, k5, b5⟩
  have D3 : DrawC l.prog w K mg base 3 f5 _ := ⟨ok_draw F5, m5, k5, b5⟩
  have T3 : Cal l.prog w K mg base 3 "_law_what" ["tray", "who", "many", "mights"] spWhat f8 _ := ⟨ok_what F8 D2 W2 B.len, m8, k8, b8⟩
  have W3 := W2.mono (show 2 ≤ 3 by decide)
  have V4 : Cal l.prog w K mg base 6 "_law_world" ["tray", "most"] spWorld f9 _ := ⟨(ok_world F9 D3 W3 T3 B.range B.max B.zip B.tuple).mono (by decide), m9, k9, b9⟩
  have Mo : Cal l.prog w K mg base 6 "_law_most" ["tray"] spMost f10 _ := ⟨ok_most F10 D5, m10, k10, b10⟩
  have Fa : Cal l.prog w K mg base 6 "_law_far" ["tray", "many"] spFar f11 _ := ⟨ok_far F11 D5 (W2.mono (by decide)) B, m11, k11, b11⟩
  have Ri : Cal l.prog w K mg base 6 "_law_right" ["tray", "many", "act"] spRight f12 _ := ⟨ok_right F12 D5 (A3.mono (by decide)) CM KM CS KSz CH KH B, m12, k12, b12⟩
  exact ok_law F13 CT Mo V4 Fa Ri B

end FR
open PySem PySem.W PyProof.Rows
set_option maxRecDepth 100000 in
set_option maxHeartbeats 0 in
theorem PySem.Challenge.cw_firmroll_k02_marks_sizes_and_what_was_se_holds : PySem.Challenge.rw_firmroll_k02_marks_sizes_and_what_was_se.Holds := by
  w_on; o_law; k_head; (case hw => w_witness2)
  k_fill
  refine L2.walk_of (l := PySem.Challenge.rw_firmroll_k02_marks_sizes_and_what_was_se) (n := 63) (k := 7) (x := "script") (CX := fun _ => L2.CX0) (sp := fun w => FR.spLaw _) rfl (by decide) rfl ⟨rfl, by decide, by decide⟩ (fun w h Y => PySem.W.kIn_of Y) ?F (fun _ _ a ns hl _ hS => ⟨a, ns, rfl, hS, hl, fun _ => rfl⟩) (fun _ _ _ _ _ h => h)
  case F =>
    intro w mg fa h KX G hmg
    refine' FR.all_mk KX G hmg ?a1 ?l1 ?c1 ?k1 ?a2 ?l2 ?c2 ?k2 ?a3 ?l3 ?c3 ?k3 ?a4 ?l4 ?c4 ?k4 ?a5 ?l5 ?c5 ?k5 ?a6 ?l6 ?c6 ?k6 ?a7 ?l7 ?c7 ?k7 ?a8 ?l8 ?c8 ?k8 ?a9 ?l9 ?c9 ?k9 ?a10 ?l10 ?c10 ?k10 ?a11 ?l11 ?c11 ?k11 ?a12 ?l12 ?c12 ?k12 ?a13 ?l13 ?c13 ?k13 ?z1 ?z2 ?z3 ?z4 ?z5 ?z6 ?z7 ?z8 ?z9 ?z10 ?z11 ?z12 ?z13
    (case a1 => k_is)
    (case l1 => k_is)
    (case c1 => k_is)
    (case k1 => k_is)
    (case a2 => k_is)
    (case l2 => k_is)
    (case c2 => k_is)
    (case k2 => k_is)
    (case a3 => k_is)
    (case l3 => k_is)
    (case c3 => k_is)
    (case k3 => k_is)
    (case a4 => k_is)
    (case l4 => k_is)
    (case c4 => k_is)
    (case k4 => k_is)
    (case a5 => k_is)
    (case l5 => k_is)
    (case c5 => k_is)
    (case k5 => k_is)
    (case a6 => k_is)
    (case l6 => k_is)
    (case c6 => k_is)
    (case k6 => k_is)
    (case a7 => k_is)
    (case l7 => k_is)
    (case c7 => k_is)
    (case k7 => k_is)
    (case a8 => k_is)
    (case l8 => k_is)
    (case c8 => k_is)
    (case k8 => k_is)
    (case a9 => k_is)
    (case l9 => k_is)
    (case c9 => k_is)
    (case k9 => k_is)
    (case a10 => k_is)
    (case l10 => k_is)
    (case c10 => k_is)
    (case k10 => k_is)
    (case a11 => k_is)
    (case l11 => k_is)
    (case c11 => k_is)
    (case k11 => k_is)
    (case a12 => k_is)
    (case l12 => k_is)
    (case c12 => k_is)
    (case k12 => k_is)
    (case a13 => k_is)
    (case l13 => k_is)
    (case c13 => k_is)
    (case k13 => k_is)
    (case z1 => k_is)
    (case z2 => k_is)
    (case z3 => k_is)
    (case z4 => k_is)
    (case z5 => k_is)
    (case z6 => k_is)
    (case z7 => k_is)
    (case z8 => k_is)
    (case z9 => k_is)
    (case z10 => k_is)
    (case z11 => k_is)
    (case z12 => k_is)
    (case z13 => k_is)

