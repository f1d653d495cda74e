import PyProof.Rows.All
import Wide.All
import OpenK.AllK
import Wide.FinOn
import HandS.ForMost
import HandS.Walk
import HandS.Strs
import HandS.SetFor
import HandS.IsInst
import HandS.TupAny
import HandS.Zip
import HandS.Defaults
import HandS.NoneIn
import HandS.Codes
import HandS.MakeKwOnly
import HandS.SortKw
import HandS.Keys
import KE.SortCalls
import HandS.Deep
import HandS.Iter
import KE.GoesMore
import KE.GoesZip
import PySem.Challenge.RW_firmroll_k05_whole_cut_anywhere
set_option Elab.async false
set_option linter.all false
set_option maxRecDepth 100000
set_option maxHeartbeats 8000000
namespace FR
open PySem PySem.Spec PyProof.Rows L2
/-! ### heaps: all but what may change stays -/
structure Kp (S : List Addr) (H H' : Hp) : Prop where
  kp : ∀ b o, H b = some o → b ∉ S → H' b = some o
  tp : ∀ b xs, H b = some (.tup xs) → H' b = some (.tup xs)
  dm : ∀ b, H' b = none → H b = none
theorem Kp.refl (S : List Addr) (H : Hp) : Kp S H H := ⟨fun _ _ h _ => h, fun _ _ h => h, fun _ h => h⟩
theorem Kp.trans {S : List Addr} {H H1 H2 : Hp} (a : Kp S H H1) (b : Kp S H1 H2) : Kp S H H2 :=
  ⟨fun c o h n => b.kp c o (a.kp c o h n) n, fun c xs h => b.tp c xs (a.tp c xs h), fun c h => a.dm c (b.dm c h)⟩
theorem Kp.mono {S S' : List Addr} {H H' : Hp} (a : Kp S H H') (h : ∀ b, b ∈ S → b ∈ S') : Kp S' H H' :=
  ⟨fun c o e n => a.kp c o e fun m => n (h c m), a.tp, a.dm⟩
theorem Kp.of {S : List Addr} {H H' : Hp} (s : Same H H') : Kp S H H' := ⟨fun b o h _ => s b o h, fun b xs h => s b _ h, fun b h => s.free h⟩
theorem same_new {H : Hp} {p : Addr} {o : HO} (h : H p = none) : Same H (upd H p o) := fun b u q => by
  rw [upd_ne (ne_of_none q h)]
  exact q
theorem Kp.new {S : List Addr} {H : Hp} {p : Addr} {o : HO} (h : H p = none) : Kp S H (upd H p o) := .of (same_new h)
theorem Kp.set {S : List Addr} {H : Hp} {p : Addr} {xs : List V} {o : HO} (h : H p = some (.lst xs)) (m : p ∈ S) : Kp S H (upd H p o) := by
  refine ⟨fun b u e n => ?_, fun b ys e => ?_, fun b e => ?_⟩
  · have nb : b ≠ p := fun q => n (q ▸ m)
    rw [upd_ne nb]
    exact e
  · have nb : b ≠ p := fun q => by
      rw [q, h] at e
      cases e
    rw [upd_ne nb]
    exact e
  · by_cases nb : b = p
    · rw [nb, upd_same] at e
      cases e
    · rw [upd_ne nb] at e
      exact e
theorem Kp.over {S : List Addr} {H H1 : Hp} {p : Addr} {o : HO} (k : Kp S H H1) (h : H p = none) : Kp S H (upd H1 p o) := by
  refine ⟨fun b u e n => ?_, fun b ys e => ?_, fun b e => ?_⟩
  · rw [upd_ne (ne_of_none e h)]
    exact k.kp b u e n
  · rw [upd_ne (ne_of_none e h)]
    exact k.tp b ys e
  · by_cases nb : b = p
    · rw [nb]
      exact h
    · rw [upd_ne nb] at e
      exact k.dm b e
theorem Kp.same {H H' : Hp} (a : Kp [] H H') : Same H H' := fun b o e => a.kp b o e (by simp)
theorem Kp.lst {S : List Addr} {H H' : Hp} {p : Addr} {xs : List V} (a : Kp S H H') (h : H p = some (.lst xs)) (n : p ∉ S) : H' p = some (.lst xs) := a.kp p _ h n
/-- a place that is new behind H is none of those that stood in H -/
theorem nin_new {S : List Addr} {H : Hp} {p : Addr} (h : H p = none) (k : ∀ b, b ∈ S → H b ≠ none) : p ∉ S := fun m => k p m h
theorem ne_new {H : Hp} {a b : Addr} {o : HO} (h : H a = some o) (h' : H b = none) : b ≠ a := fun e => ne_of_none h h' e.symm

theorem sqT {K : PySem.W.Frag} {H : Hp} {a : Addr} {xs : List V} (h : H a = some (.tup xs)) : SqT K H a xs := .inl (.inl h)
theorem sqL {K : PySem.W.Frag} {H : Hp} {a : Addr} {xs : List V} (h : H a = some (.lst xs)) : SqL K H a xs := .inl (.inl h)
theorem upd_at {H : Hp} {a b : Addr} {o u : HO} (h : H b = some u) (n : H a = none) : (upd H a o) b = some u := by
  rw [upd_ne (ne_of_none h n)]
  exact h

/-! ### the tray -/
structure TrayAt (H : Hp) (t g : Addr) (N : Nat) : Prop where
  ex : ∃ (gs : List Int) (x f n : Int), H t = some (.lst [.ref g, .int x, .int f, .int n]) ∧ H g = some (.lst (gs.map V.int)) ∧ 0 ≤ f ∧ f < 2 ^ 61 ∧ 0 ≤ n ∧ n ≤ (N : Int)
theorem TrayAt.mono {H : Hp} {t g : Addr} {N M : Nat} (T : TrayAt H t g N) (h : N ≤ M) : TrayAt H t g M := by
  obtain ⟨gs, x, f, n, h1, h2, h3, h4, h5, h6⟩ := T.ex
  exact ⟨gs, x, f, n, h1, h2, h3, h4, h5, by omega⟩
theorem TrayAt.keep {S : List Addr} {H H' : Hp} {t g : Addr} {N : Nat} (T : TrayAt H t g N) (k : Kp S H H') (ht : t ∉ S) (hg : g ∉ S) : TrayAt H' t g N := by
  obtain ⟨gs, x, f, n, h1, h2, h3⟩ := T.ex
  exact ⟨gs, x, f, n, k.kp _ _ h1 ht, k.kp _ _ h2 hg, h3⟩
theorem TrayAt.same {H H' : Hp} {t g : Addr} {N : Nat} (T : TrayAt H t g N) (k : Same H H') : TrayAt H' t g N :=
  T.keep (S := []) (.of k) (by simp) (by simp)
theorem TrayAt.neT {H : Hp} {t g p : Addr} {N : Nat} (T : TrayAt H t g N) (h : H p = none) : p ∉ [t, g] := by
  obtain ⟨gs, x, f, n, h1, h2, h3⟩ := T.ex
  intro m
  simp only [List.mem_cons, List.not_mem_nil, or_false] at m
  rcases m with rfl | rfl
  · rw [h1] at h
    cases h
  · rw [h2] at h
    cases h
theorem TrayAt.over {H : Hp} {t g p : Addr} {N : Nat} {o : HO} (T : TrayAt H t g N) (h : p ∉ [t, g]) : TrayAt (upd H p o) t g N := by
  obtain ⟨gs, x, f, n, h1, h2, h3⟩ := T.ex
  simp only [List.mem_cons, List.not_mem_nil, or_false, not_or] at h
  exact ⟨gs, x, f, n, (upd_ne fun e => h.1 e.symm).trans h1, (upd_ne fun e => h.2 e.symm).trans h2, h3⟩
def spDraw : Sp := fun vs H Q _ => ∃ (t g : Addr) (N : Nat) (many : Int), vs = [.ref t, .int many] ∧ TrayAt H t g N ∧ N < 2 ^ 60 ∧ 0 < many ∧ many < 1073741824 ∧
  ∀ (H' : Hp) (k : Int), 0 ≤ k → k < many → TrayAt H' t g (N + 1) → Kp [t, g] H H' → Q (.int k) H'
def spTray (K : PySem.W.Frag) : Sp := fun vs H Q _ => ∃ (a : Addr) (ns : List Int), vs = [.ref a] ∧ SqL K H a (ns.map V.int) ∧ ns.length ≤ 63 ∧
  ∀ (t g : Addr) (H' : Hp), Same H H' → H t = none → H g = none → TrayAt H' t g 0 → Q (.ref t) H'
theorem map_int_at {ns : List Int} {i : Nat} {y : V} (h : (ns.map V.int)[i]? = some y) : ∃ z, ns[i]? = some z ∧ y = V.int z := by
  rw [List.getElem?_map] at h
  cases e : ns[i]? with
  | none =>
    rw [e] at h
    cases h
  | some z =>
    rw [e] at h
    exact ⟨z, rfl, (Option.some.inj h).symm⟩
def lenAt (g : Addr) (H : Hp) : Nat := match H g with
  | some (.lst xs) => xs.length
  | _ => 0
theorem lenAt_of {g : Addr} {H : Hp} {xs : List V} (h : H g = some (.lst xs)) : lenAt g H = xs.length := by
  unfold lenAt
  rw [h]
theorem eqv_ints_nil : ∀ gs : List Int, PyData.eqv (.list (gs.map PyData.int)) (.list []) = gs.isEmpty
  | [] => rfl
  | _ :: _ => rfl
theorem dpInts {K : PySem.W.Frag} {H : Hp} : ∀ gs : List Int, DpAll K H (gs.map V.int) (gs.map PyData.int)
  | [] => .nil
  | g :: r => .cons (.int g) (dpInts r)
theorem erase0 (gs : List Int) : (gs.map V.int).eraseIdx 0 = (gs.drop 1).map V.int := by cases gs <;> rfl
end FR
namespace FR
open PySem PySem.Spec PyProof.Rows L2
/-! ### words -/
def WordOk (s : Str) : Prop := 1 ≤ (TL.tl s).length ∧ (TL.tl s).length ≤ 8 ∧ ∀ c ∈ TL.tl s, 97 ≤ c ∧ c ≤ 122
instance (s : Str) : Decidable (WordOk s) := by unfold WordOk; infer_instance
def someWords : List Str := ["give", "take", "use", "lead", "seen", "a", "b", "ab"]
theorem some_ok : ∀ s ∈ someWords, WordOk s := by decide +kernel
theorem some_at {k : Int} (h0 : 0 ≤ k) (h1 : k < 8) : ∃ s, atI (someWords.map V.str) k = some (.str s) ∧ WordOk s := by
  have hk : k.toNat < someWords.length := by show k.toNat < 8; omega
  refine ⟨someWords[k.toNat], ?_, some_ok _ (List.getElem_mem hk)⟩
  refine at_of (j := k.toNat) (by omega) ?_
  rw [List.getElem?_map, List.getElem?_eq_getElem hk]
  rfl
def abc : Str := "abcdefghijklmnopqrstuvwxyz"
theorem abc_all : ∀ j : Fin 26, abc.cps.toList[j.val]? = some (97 + j.val) := by decide +kernel
theorem abc_len : abc.length ≤ sizeLine := by decide +kernel
theorem abc_at {k : Int} (h0 : 0 ≤ k) (h1 : k < 26) : atI abc.cps.toList k = some (97 + k.toNat) := by
  have e : k = ((k.toNat : Nat) : Int) := by omega
  have h := abc_all ⟨k.toNat, by omega⟩
  rw [e]
  exact atI_nat h
/-- the text of these small letters -/
def letters (l : List Nat) : Str := ⟨l.toArray⟩
theorem join_one : ∀ l : List Nat, TL.tl (Txt.join Str.empty (l.map fun c => (⟨#[c]⟩ : Str))) = l := fun l => by
  rw [TL.join_eq, TL.tl_join]
  induction l with
  | nil => rfl
  | cons c r ih =>
    cases r with
    | nil => rfl
    | cons d r =>
      have e : TL.joinL (TL.tl Str.empty) (List.map TL.tl (List.map (fun c => (⟨#[c]⟩ : Str)) (c :: d :: r))) = [c] ++ ([] ++ TL.joinL (TL.tl Str.empty) (List.map TL.tl (List.map (fun c => (⟨#[c]⟩ : Str)) (d :: r)))) := rfl
      rw [e, ih]
      rfl
theorem ones_sum : ∀ l : List Nat, ((l.map fun c => (⟨#[c]⟩ : Str)).map (·.length)).sum = l.length
  | [] => rfl
  | c :: r => by
    rw [List.map_cons, List.map_cons, List.sum_cons, ones_sum r, List.length_cons, Nat.add_comm]
    rfl
def spWord : Sp := fun vs H Q _ => ∃ (t g : Addr) (N : Nat), vs = [.ref t] ∧ TrayAt H t g N ∧ N + 20 < 2 ^ 60 ∧
  ∀ (H' : Hp) (s : Str), WordOk s → TrayAt H' t g (N + 12) → Kp [t, g] H H' → Q (.str s) H'
end FR
namespace FR
open PySem PySem.Spec PyProof.Rows L2
/-! ### what is done, deeds -/
inductive What where
  | give (p k : Str) (m : Int)
  | take (p k : Str) (m : Int)
  | use (p v : Str)
  deriving DecidableEq
def What.vs : What → List V
  | .give p k m => [.str "give", .str p, .str k, .int m]
  | .take p k m => [.str "take", .str p, .str k, .int m]
  | .use p v => [.str "use", .str p, .str v]
def KindOk (k : Str) : Prop := k = "use" ∨ k = "lead"
def What.Ok (who many : Int) : What → Prop
  | .give p k m => WordOk p ∧ KindOk k ∧ who < m ∧ m < many
  | .take p k m => WordOk p ∧ KindOk k ∧ who < m ∧ m < many
  | .use p v => WordOk p ∧ WordOk v
structure Act where
  who : Int
  num : Int
  note : List Int
  what : What
  deriving DecidableEq
def ActAt (H : Hp) (p : Addr) (a : Act) : Prop := ∃ n q, H p = some (.tup [.int a.who, .int a.num, .ref n, .ref q]) ∧ H n = some (.tup (a.note.map V.int)) ∧ H q = some (.tup a.what.vs)
theorem ActAt.keep {S : List Addr} {H H' : Hp} {p : Addr} {a : Act} (h : ActAt H p a) (k : Kp S H H') : ActAt H' p a := by
  obtain ⟨n, q, h1, h2, h3⟩ := h
  exact ⟨n, q, k.tp _ _ h1, k.tp _ _ h2, k.tp _ _ h3⟩
abbrev ActsAt (H : Hp) (ps : List Addr) (as : List Act) : Prop := Paired (fun p a => ActAt H p a) ps as
theorem ActsAt.keep {S : List Addr} {H H' : Hp} {ps : List Addr} {as : List Act} (h : ActsAt H ps as) (k : Kp S H H') : ActsAt H' ps as := Paired.mapP h fun _ _ q => q.keep k
theorem paired_snoc {α β : Type} {F : α → β → Prop} : ∀ {xs : List α} {ys : List β} {x : α} {y : β}, Paired F xs ys → F x y → Paired F (xs ++ [x]) (ys ++ [y])
  | _, _, _, _, .nil, h => .cons h .nil
  | _, _, _, _, .cons r t, h => .cons r (paired_snoc t h)
theorem paired_at {α β : Type} {F : α → β → Prop} : ∀ {xs : List α} {ys : List β} {i : Nat} {x : α}, Paired F xs ys → xs[i]? = some x → ∃ y, ys[i]? = some y ∧ F x y
  | _, _, _, _, .nil, h => by simp at h
  | _, _, 0, _, .cons r t, h => by
    simp at h
    subst h
    exact ⟨_, rfl, r⟩
  | _, _, i + 1, x, .cons r t, h => by
    obtain ⟨y, h1, h2⟩ := paired_at (i := i) (x := x) t (by simpa using h)
    exact ⟨y, by simpa using h1, h2⟩
theorem strs_at {ms : List Str} {k : Int} (h0 : 0 ≤ k) (h1 : k < (ms.length : Int)) : ∃ s, s ∈ ms ∧ atI (ms.map V.str) k = some (.str s) := by
  have hk : k.toNat < ms.length := by omega
  refine ⟨ms[k.toNat], List.getElem_mem hk, at_of (j := k.toNat) (by omega) ?_⟩
  rw [List.getElem?_map, List.getElem?_eq_getElem hk]
  rfl
theorem kind_at {k : Int} (h0 : 0 ≤ k) (h1 : k < 2) : ∃ s, KindOk s ∧ atI ([.str "use", .str "lead"] : List V) k = some (.str s) := by
  obtain ⟨s, m, e⟩ := strs_at (ms := ["use", "lead"]) h0 h1
  refine ⟨s, ?_, e⟩
  simp at m
  exact m
theorem deal_at {k : Int} (h0 : 0 ≤ k) (h1 : k < 4) : ∃ s : Str, (s = "give" ∨ s = "take") ∧ atI ([.str "give", .str "give", .str "give", .str "take"] : List V) k = some (.str s) := by
  obtain ⟨s, m, e⟩ := strs_at (ms := ["give", "give", "give", "take"]) h0 h1
  refine ⟨s, ?_, e⟩
  simp at m
  exact m
def spWhat : Sp := fun vs H Q _ => ∃ (t g m : Addr) (N : Nat) (who many : Int) (ms : List Str), vs = [.ref t, .int who, .int many, .ref m] ∧ TrayAt H t g N ∧ N + 40 < 2 ^ 60 ∧ 0 ≤ who ∧ who < many ∧ many ≤ 6 ∧
  H m = some (.lst (ms.map V.str)) ∧ m ∉ [t, g] ∧ ms ≠ [] ∧ ms.length ≤ 3 ∧ (∀ s ∈ ms, WordOk s) ∧
  ∀ (H' : Hp) (q : Addr) (wt : What), H q = none → H' q = some (.tup wt.vs) → wt.Ok who many → TrayAt H' t g (N + 16) → Kp [t, g] H H' → Q (.ref q) H'
end FR
namespace FR
open PySem PySem.Spec PyProof.Rows L2
/-! ### a world: deeds done one behind the other -/
/-- the deeds so far, and what each member knows of them -/
inductive Wd (many : Nat) : List Act → List (List Int) → Prop
  | nil : Wd many [] (List.replicate many (List.replicate many 0))
  | step {acts : List Act} {known : List (List Int)} {i : Nat} {row row' : List Int} {c : Int} {wt : What} : Wd many acts known → known[i]? = some row →
      (row' = row ∨ ∃ (j : Nat) (ro : List Int), known[j]? = some ro ∧ row' = List.zipWith max row ro) → row'[i]? = some c → wt.Ok i many →
      Wd many (acts ++ [⟨i, c + 1, row', wt⟩]) (known.set i (row'.set i (c + 1)))
theorem Wd.lens {many : Nat} {acts : List Act} {known : List (List Int)} (h : Wd many acts known) : known.length = many ∧ ∀ r ∈ known, r.length = many := by
  induction h with
  | nil => exact ⟨List.length_replicate, fun r m => by rw [(List.mem_replicate.mp m).2]; exact List.length_replicate⟩
  | step w hi hr hc ok ih =>
    obtain ⟨h1, h2⟩ := ih
    refine ⟨by rw [List.length_set]; exact h1, fun r m => ?_⟩
    rcases List.mem_or_eq_of_mem_set m with m | rfl
    · exact h2 r m
    · rw [List.length_set]
      have q := h2 _ (List.mem_of_getElem? hi)
      rcases hr with rfl | ⟨j, ro, hj, rfl⟩
      · exact q
      · rw [List.length_zipWith, q, h2 _ (List.mem_of_getElem? hj), Nat.min_self]
theorem paired_set {α β : Type} {F : α → β → Prop} {x : α} {y : β} (r : F x y) : ∀ {xs : List α} {ys : List β} (i : Nat), Paired F xs ys → Paired F (xs.set i x) (ys.set i y)
  | _, _, _, .nil => .nil
  | _, _, 0, .cons _ t => .cons r t
  | _, _, i + 1, .cons q t => .cons q (paired_set r i t)
theorem paired_len {α β : Type} {F : α → β → Prop} {xs : List α} {ys : List β} (h : Paired F xs ys) : xs.length = ys.length := Paired.length h
theorem paired_at2 {α β : Type} {F : α → β → Prop} : ∀ {xs : List α} {ys : List β} {i : Nat} {y : β}, Paired F xs ys → ys[i]? = some y → ∃ x, xs[i]? = some x ∧ F x y
  | _, _, _, _, .nil, h => by simp at h
  | _, _, 0, _, .cons r t, h => by
    simp at h
    subst h
    exact ⟨_, rfl, r⟩
  | _, _, i + 1, x, .cons r t, h => by
    obtain ⟨y, h1, h2⟩ := paired_at2 (i := i) (y := x) t (by simpa using h)
    exact ⟨y, by simpa using h1, h2⟩
/-- only the i-th is looked at anew -/
theorem paired_imp_ne {α β : Type} {F G : α → β → Prop} : ∀ {xs : List α} {ys : List β} (p : α → Prop), Paired F xs ys → (∀ x ∈ xs, p x) → (∀ x y, p x → F x y → G x y) → Paired G xs ys
  | _, _, _, .nil, _, _ => .nil
  | _, _, p, .cons r t, h, f => .cons (f _ _ (h _ (List.mem_cons_self ..)) r) (paired_imp_ne p t (fun x m => h x (List.mem_cons_of_mem _ m)) f)
abbrev RowsAt (H : Hp) (as : List Addr) (known : List (List Int)) : Prop := Paired (fun a (r : List Int) => H a = some (.lst (r.map V.int))) as known
theorem max_int (i j : Int) : (if j > i then j else i) = max i j := by
  rw [Int.max_def]
  split <;> split <;> omega
/-- the heap while a world is made: H0 ahead of it; kn what is known, ac the deeds, m the powers; the tray as at N -/
structure WAt (H0 H : Hp) (t g m kn ac : Addr) (ms : List Str) (as ps : List Addr) (acts : List Act) (known : List (List Int)) (N : Nat) : Prop where
  hkn : H kn = some (.lst (as.map V.ref))
  hac : H ac = some (.lst (ps.map V.ref))
  hm : H m = some (.lst (ms.map V.str))
  rows : RowsAt H as known
  nd : as.Nodup
  apart : ∀ a ∈ as, a ∉ [t, g, kn, ac, m]
  nkn : kn ∉ [t, g, ac, m]
  nac : ac ∉ [t, g, m]
  nm : m ∉ [t, g]
  acts : ActsAt H ps acts
  T : TrayAt H t g N
  kp : Kp [t, g] H0 H
  fkn : H0 kn = none
  fac : H0 ac = none
  frows : ∀ a ∈ as, H0 a = none
section
variable {H0 H H' : Hp} {t g m kn ac : Addr} {ms : List Str} {as ps : List Addr} {acts : List Act} {known : List (List Int)} {N M : Nat}
theorem RowsAt.keep {S : List Addr} (h : RowsAt H as known) (k : Kp S H H') (n : ∀ a ∈ as, a ∉ S) : RowsAt H' as known :=
  paired_imp_ne (fun a => a ∉ S) h n fun x y nx e => k.kp x _ e nx
/-- the tray was drawn from, new things were made -/
theorem WAt.keep (W : WAt H0 H t g m kn ac ms as ps acts known N) (k : Kp [t, g] H H') (T : TrayAt H' t g M) : WAt H0 H' t g m kn ac ms as ps acts known M := by
  have n1 := W.nkn
  have n2 := W.nac
  have n3 := W.nm
  simp only [List.mem_cons, List.not_mem_nil, or_false, not_or] at n1 n2 n3
  refine { W with
    hkn := k.kp _ _ W.hkn (by simp [n1])
    hac := k.kp _ _ W.hac (by simp [n2])
    hm := k.kp _ _ W.hm (by simp [n3])
    rows := W.rows.keep k fun a h => ?_
    acts := W.acts.keep k
    T := T
    kp := W.kp.trans k }
  have q := W.apart a h
  simp only [List.mem_cons, List.not_mem_nil, or_false, not_or] at q ⊢
  exact ⟨q.1, q.2.1⟩
theorem WAt.mono (W : WAt H0 H t g m kn ac ms as ps acts known N) (h : N ≤ M) : WAt H0 H t g m kn ac ms as ps acts known M := { W with T := W.T.mono h }
theorem WAt.row (W : WAt H0 H t g m kn ac ms as ps acts known N) {i : Nat} {row : List Int} (h : known[i]? = some row) : ∃ a, as[i]? = some a ∧ H a = some (.lst (row.map V.int)) ∧ (as.map V.ref)[i]? = some (V.ref a) := by
  obtain ⟨a, h1, h2⟩ := paired_at2 W.rows h
  refine ⟨a, h1, h2, ?_⟩
  rw [List.getElem?_map, h1]
  rfl
theorem nd_set {α : Type} {l : List α} {i : Nat} {x : α} (h : l.Nodup) (n : x ∉ l) : (l.set i x).Nodup := by
  induction l generalizing i with
  | nil => exact h
  | cons a r ih =>
    rw [List.nodup_cons] at h
    rw [List.mem_cons, not_or] at n
    cases i with
    | zero =>
      show (x :: r).Nodup
      rw [List.nodup_cons]
      exact ⟨n.2, h.2⟩
    | succ i =>
      show (a :: r.set i x).Nodup
      rw [List.nodup_cons]
      refine ⟨fun m => ?_, ih h.2 n.2⟩
      rcases List.mem_or_eq_of_mem_set m with m | e
      · exact h.1 m
      · exact n.1 e.symm
theorem map_set_ref (as : List Addr) (i : Nat) (D : Addr) : (as.map V.ref).set i (.ref D) = (as.set i D).map V.ref := by rw [List.map_set]
/-- known[i] = the new list at D -/
theorem WAt.put (W : WAt H0 H t g m kn ac ms as ps acts known N) {i : Nat} {row : List Int} {D : Addr} (hD : H D = some (.lst (row.map V.int))) (nD : D ∉ [t, g, kn, ac, m]) (nas : D ∉ as) (f : H0 D = none) :
    WAt H0 (upd H kn (.lst ((as.set i D).map V.ref))) t g m kn ac ms (as.set i D) ps acts (known.set i row) N := by
  have n1 := W.nkn
  have n2 := W.nac
  have n3 := W.nm
  simp only [List.mem_cons, List.not_mem_nil, or_false, not_or] at n1 n2 n3 nD
  have hkn : ∀ a ∈ as, a ≠ kn := fun a h e => W.apart a h (by rw [e]; simp)
  refine {
    hkn := upd_same, hac := (upd_ne fun e => n1.2.2.1 e.symm).trans W.hac, hm := (upd_ne fun e => n1.2.2.2 e.symm).trans W.hm, rows := ?_, nd := nd_set W.nd nas, apart := fun a h => ?_, nkn := W.nkn, nac := W.nac, nm := W.nm,
    acts := W.acts.keep (S := [kn]) (.set W.hkn (by simp)), T := W.T.over (by simp [n1]), kp := W.kp.over W.fkn, fkn := W.fkn, fac := W.fac, frows := fun a h => ?_ }
  · refine paired_set (F := fun (a : Addr) (r : List Int) => upd H kn (.lst ((as.set i D).map V.ref)) a = some (.lst (r.map V.int))) ((upd_ne nD.2.2.1).trans hD) i (paired_imp_ne (fun (a : Addr) => a ≠ kn) W.rows hkn fun x y nx e => (upd_ne nx).trans e)
  · rcases List.mem_or_eq_of_mem_set h with h | rfl
    · exact W.apart a h
    · simp only [List.mem_cons, List.not_mem_nil, or_false, not_or]
      exact nD
  · rcases List.mem_or_eq_of_mem_set h with h | rfl
    · exact W.frows a h
    · exact f
/-- known[i][..] = ..: the i-th row is changed in its place -/
theorem WAt.turn (W : WAt H0 H t g m kn ac ms as ps acts known N) {i : Nat} {row old : List Int} {r : Addr} (hr : as[i]? = some r) (ho : H r = some (.lst (old.map V.int))) :
    WAt H0 (upd H r (.lst (row.map V.int))) t g m kn ac ms as ps acts (known.set i row) N := by
  have mr := List.mem_of_getElem? hr
  have q := W.apart r mr
  simp only [List.mem_cons, List.not_mem_nil, or_false, not_or] at q
  have e : as = as.set i r := by
    obtain ⟨hl, he⟩ := List.getElem?_eq_some_iff.mp hr
    rw [← he, List.set_getElem_self]
  refine { W with
    hkn := (upd_ne fun e => q.2.2.1 e.symm).trans W.hkn, hac := (upd_ne fun e => q.2.2.2.1 e.symm).trans W.hac, hm := (upd_ne fun e => q.2.2.2.2 e.symm).trans W.hm, rows := ?_,
    acts := W.acts.keep (S := [r]) (.set ho (by simp)), T := W.T.over (by simp [q]), kp := W.kp.over (W.frows r mr) }
  -- all other rows stand at other places
  have all : ∀ {bs : List Addr} {ks : List (List Int)} {i : Nat}, bs[i]? = some r → bs.Nodup → RowsAt H bs ks → RowsAt (upd H r (.lst (row.map V.int))) bs (ks.set i row) := by
    intro bs
    induction bs with
    | nil =>
      intro ks i h
      simp at h
    | cons b bs ih =>
      intro ks i h nd p
      rw [List.nodup_cons] at nd
      cases p with
      | cons p1 p2 =>
        cases i with
        | zero =>
          simp at h
          subst h
          refine .cons upd_same (paired_imp_ne (fun (a : Addr) => a ≠ b) p2 (fun a ma e => nd.1 (e ▸ ma)) fun x y nx e => (upd_ne nx).trans e)
        | succ i =>
          have h : bs[i]? = some r := by simpa using h
          have nb : b ≠ r := fun e => nd.1 (e ▸ List.mem_of_getElem? h)
          exact .cons ((upd_ne nb).trans p1) (ih h nd.2 p2)
  exact all hr W.nd W.rows
/-- acts.append(..) -/
theorem WAt.app (W : WAt H0 H t g m kn ac ms as ps acts known N) {p : Addr} {a : Act} (ha : ActAt H p a) : WAt H0 (upd H ac (.lst (ps.map V.ref ++ [.ref p]))) t g m kn ac ms as (ps ++ [p]) (acts ++ [a]) known N := by
  have n1 := W.nkn
  have n2 := W.nac
  simp only [List.mem_cons, List.not_mem_nil, or_false, not_or] at n1 n2
  have k : Kp [ac] H (upd H ac (.lst (ps.map V.ref ++ [.ref p]))) := .set W.hac (by simp)
  refine { W with hkn := (upd_ne n1.2.2.1).trans W.hkn, hac := ?_, hm := (upd_ne fun e => n2.2.2 e.symm).trans W.hm, rows := ?_, acts := paired_snoc (W.acts.keep k) (ha.keep k), T := W.T.over (by simp [n2]), kp := W.kp.over W.fac }
  · rw [upd_same, List.map_append]
    rfl
  · refine W.rows.keep k fun a h => ?_
    have q := W.apart a h
    simp only [List.mem_cons, List.not_mem_nil, or_false, not_or] at q ⊢
    exact q.2.2.2.1
end
def spWorld : Sp := fun vs H Q _ => ∃ (t g : Addr) (N : Nat) (most : Int), vs = [.ref t, .int most] ∧ TrayAt H t g N ∧ 0 ≤ most ∧ most ≤ 1000 ∧ N < 2 ^ 59 ∧
  ∀ (H' : Hp) (r ac : Addr) (ps : List Addr) (many : Nat) (acts : List Act) (known : List (List Int)), 1 ≤ many → many ≤ 6 → (acts.length : Int) ≤ most → Wd many acts known → H r = none → H ac = none → r ∉ [t, g, ac] → ac ∉ [t, g] →
    H' r = some (.lst [.int many, .ref ac]) → H' ac = some (.lst (ps.map V.ref)) → ActsAt H' ps acts → TrayAt H' t g (N + 100 + 20 * most.toNat) → Kp [t, g] H H' → Q (.ref r) H'
def spMost : Sp := fun vs H Q _ => ∃ (t g : Addr) (N : Nat), vs = [.ref t] ∧ TrayAt H t g N ∧ N < 2 ^ 59 ∧
  ∀ (H' : Hp) (k : Int), 0 ≤ k → k ≤ 110 → TrayAt H' t g (N + 1) → Kp [t, g] H H' → Q (.int k) H'
end FR
namespace FR
open PySem PySem.Spec PyProof.Rows L2
theorem ixN_of {n : Nat} {z : Int} {j : Nat} (e : z = (j : Int)) (h : j < n) : ixN n z = some j := by
  subst e
  unfold ixN
  rw [if_pos (by omega), if_pos (by omega)]
  simp
theorem rep_zero (n : Nat) : (List.replicate n ([V.int 0] : List V)).flatten = (List.replicate n (0 : Int)).map V.int := by
  induction n with
  | zero => rfl
  | succ n ih => rw [List.replicate_succ, List.flatten_cons, ih, List.replicate_succ, List.map_cons]; rfl
theorem ints_at {l : List Int} {i : Nat} {c : Int} (h : l[i]? = some c) : (l.map V.int)[i]? = some (.int c) := by
  rw [List.getElem?_map, h]
  rfl
theorem get_some {α : Type} {l : List α} {i : Nat} (h : i < l.length) : ∃ x, l[i]? = some x := ⟨l[i], List.getElem?_eq_getElem h⟩
theorem zip_take {f : Int → Int → Int} {r s : List Int} {i : Nat} {x y : Int} (h1 : r[i]? = some x) (h2 : s[i]? = some y) : (List.zipWith f r s).take (i + 1) = (List.zipWith f r s).take i ++ [f x y] := by
  rw [List.take_add_one, List.getElem?_zipWith, h1, h2]
  rfl
end FR
namespace FR
open PySem PySem.Spec PyProof.Rows L2
/-! ### two values alike, down to a depth -/
def plainV : V → Bool
  | .non => true
  | .bl _ => true
  | .int _ => true
  | .str _ => true
  | _ => false
def Al (H : Hp) : Nat → V → V → Prop
  | 0, _, _ => False
  | n + 1, x, y => (x = y ∧ plainV x = true) ∨ ∃ (a b : Addr) (xs ys : List V), x = .ref a ∧ y = .ref b ∧ ((H a = some (.lst xs) ∧ H b = some (.lst ys)) ∨ (H a = some (.tup xs) ∧ H b = some (.tup ys))) ∧ xs.length = ys.length ∧ xs.length ≤ 1000 ∧
      ∀ (i : Nat) (u v : V), xs[i]? = some u → ys[i]? = some v → Al H n u v
theorem Al.same {H H' : Hp} (s : Same H H') : ∀ {n : Nat} {x y : V}, Al H n x y → Al H' n x y
  | 0, _, _, h => h.elim
  | n + 1, x, y, h => by
    rcases h with h | ⟨a, b, xs, ys, e1, e2, h, hl, hn, f⟩
    · exact .inl h
    · refine .inr ⟨a, b, xs, ys, e1, e2, ?_, hl, hn, fun i u v h1 h2 => (f i u v h1 h2).same s⟩
      rcases h with ⟨h1, h2⟩ | ⟨h1, h2⟩
      · exact .inl ⟨s _ _ h1, s _ _ h2⟩
      · exact .inr ⟨s _ _ h1, s _ _ h2⟩
theorem Al.flat {H : Hp} {n : Nat} {x : V} (h : plainV x = true) : Al H (n + 1) x x := .inl ⟨rfl, h⟩
/-- by the lists' items one behind the other -/
theorem Al.list {H : Hp} {n : Nat} {a b : Addr} {xs ys : List V} (h1 : H a = some (.lst xs)) (h2 : H b = some (.lst ys)) (hn : xs.length ≤ 1000) (p : Paired (Al H n) xs ys) : Al H (n + 1) (.ref a) (.ref b) :=
  .inr ⟨a, b, xs, ys, rfl, rfl, .inl ⟨h1, h2⟩, paired_len p, hn, fun i u v e1 e2 => by
    obtain ⟨z, e3, q⟩ := paired_at p e1
    rw [e2] at e3
    cases e3
    exact q⟩
theorem Al.tup {H : Hp} {n : Nat} {a b : Addr} {xs ys : List V} (h1 : H a = some (.tup xs)) (h2 : H b = some (.tup ys)) (hn : xs.length ≤ 1000) (p : Paired (Al H n) xs ys) : Al H (n + 1) (.ref a) (.ref b) :=
  .inr ⟨a, b, xs, ys, rfl, rfl, .inr ⟨h1, h2⟩, paired_len p, hn, fun i u v e1 e2 => by
    obtain ⟨z, e3, q⟩ := paired_at p e1
    rw [e2] at e3
    cases e3
    exact q⟩
def spAlike (n : Nat) : Sp := fun vs H Q _ => ∃ (x y : V), vs = [x, y] ∧ Al H n x y ∧ ∀ H' : Hp, Same H H' → Q (.bl true) H'
end FR
namespace FR
open PySem PySem.Spec PyProof.Rows L2
/-! ### deeds as data -/
def What.data : What → List PyData
  | .give p k m => [.str "give", .str p, .str k, .int m]
  | .take p k m => [.str "take", .str p, .str k, .int m]
  | .use p v => [.str "use", .str p, .str v]
def Act.data (a : Act) : PyData := .tuple [.int a.who, .int a.num, .tuple (a.note.map PyData.int), .tuple a.what.data]
theorem What.dp {K : PySem.W.Frag} {H : Hp} : ∀ w : What, DpAll K H w.vs w.data
  | .give _ _ _ => .cons (.str _) (.cons (.str _) (.cons (.str _) (.cons (.int _) .nil)))
  | .take _ _ _ => .cons (.str _) (.cons (.str _) (.cons (.str _) (.cons (.int _) .nil)))
  | .use _ _ => .cons (.str _) (.cons (.str _) (.cons (.str _) .nil))
theorem ActAt.dp {K : PySem.W.Frag} {H : Hp} {p : Addr} {a : Act} (h : ActAt H p a) : Dp K H (.ref p) a.data := by
  obtain ⟨n, q, h1, h2, h3⟩ := h
  exact .tup (sqT h1) (.cons (.int _) (.cons (.int _) (.cons (.tup (sqT h2) (dpInts _)) (.cons (.tup (sqT h3) a.what.dp) .nil))))
theorem word_str {s : Str} (h : WordOk s) : PyData.strOk s = true := by
  show s.cps.all (· < 0x110000) = true
  rw [Array.all_eq_true]
  intro i hi
  have q := h.2.2 s.cps[i] (by show s.cps[i] ∈ s.cps.toList; simp)
  exact decide_eq_true (by omega)
theorem kind_str {s : Str} (h : KindOk s) : PyData.strOk s = true := by rcases h with rfl | rfl <;> decide +kernel
/-- its texts are words -/
def What.Fit : What → Prop
  | .give p k _ => WordOk p ∧ KindOk k
  | .take p k _ => WordOk p ∧ KindOk k
  | .use p v => WordOk p ∧ WordOk v
theorem What.Ok.fit {who many : Int} : ∀ {w : What}, w.Ok who many → w.Fit
  | .give _ _ _, h => ⟨h.1, h.2.1⟩
  | .take _ _ _, h => ⟨h.1, h.2.1⟩
  | .use _ _, h => h
theorem What.lay {w : What} (h : w.Fit) : PyData.canLayAll0 w.data = true := by
  have e1 : PyData.strOk "give" = true := by decide +kernel
  have e2 : PyData.strOk "take" = true := by decide +kernel
  have e3 : PyData.strOk "use" = true := by decide +kernel
  cases w with
  | give p k m => simp [What.data, PyData.canLayAll0, PyData.canLay0, e1, word_str h.1, kind_str h.2]
  | take p k m => simp [What.data, PyData.canLayAll0, PyData.canLay0, e2, word_str h.1, kind_str h.2]
  | use p v => simp [What.data, PyData.canLayAll0, PyData.canLay0, e3, word_str h.1, word_str h.2]
theorem What.deep (w : What) : PyData.depthAll w.data ≤ 1 := by cases w <;> simp [What.data, PyData.depthAll, PyData.depth]
theorem Act.shaped {a : Act} (hf : a.what.Fit) : SeqAt.shaped a.data = true := by
  have h1 := PySem.W.canLayAll0_ints a.note
  have h2 := PySem.W.depthAll_ints a.note
  have h3 := What.lay hf
  have h4 := a.what.deep
  unfold SeqAt.shaped Act.data
  rw [Bool.and_eq_true]
  refine ⟨?_, decide_eq_true ?_⟩
  · simp only [PyData.canLay0, PyData.canLayAll0, h1, h3, Bool.and_self]
  · simp only [PyData.depth, PyData.depthAll]
    omega
theorem Act.eqv {a : Act} (hf : a.what.Fit) : PyData.eqv a.data a.data = true := SeqAt.eqv_refl _ (SeqAt.canLay_of_shaped (Act.shaped hf))
theorem two_shaped (i j : Int) : SeqAt.shaped (.tuple [.int i, .int j]) = true := by
  unfold SeqAt.shaped
  simp [PyData.canLay0, PyData.canLayAll0, PyData.depth, PyData.depthAll]
theorem two_eqv (i j : Int) : PyData.eqv (.tuple [.int i, .int j]) (.tuple [.int i, .int j]) = true := SeqAt.eqv_refl _ (SeqAt.canLay_of_shaped (two_shaped i j))
/-- whether a deed has seen that of a mark -/
def Act.seen (a : Act) (o k : Int) : Bool := decide (0 ≤ o) && decide (o < (a.note.length : Int)) && (decide (1 ≤ k) && decide (k ≤ a.note.getD o.toNat 0))
def spMark : Sp := fun vs H Q _ => ∃ (p : Addr) (a : Act), vs = [.ref p] ∧ ActAt H p a ∧ ∀ (q : Addr) (H' : Hp), Same H H' → H q = none → H' q = some (.tup [.int a.who, .int a.num]) → Q (.ref q) H'
def spSize : Sp := fun vs H Q _ => ∃ (p : Addr) (a : Act), vs = [.ref p] ∧ ActAt H p a ∧ Q (.int a.note.sum) H
def spSeen : Sp := fun vs H Q _ => ∃ (p m : Addr) (a : Act) (o k : Int), vs = [.ref p, .ref m] ∧ ActAt H p a ∧ H m = some (.tup [.int o, .int k]) ∧ Q (.bl (a.seen o k)) H
end FR
namespace FR
open PySem PySem.Spec PyProof.Rows L2
theorem zipWith_nonneg : ∀ {r s : List Int}, (∀ x ∈ r, 0 ≤ x) → (∀ x ∈ s, 0 ≤ x) → ∀ x ∈ List.zipWith max r s, 0 ≤ x
  | [], _, _, _, x, h => by simp at h
  | _ :: _, [], _, _, x, h => by simp at h
  | a :: r, b :: s, hr, hs, x, h => by
    rw [List.zipWith_cons_cons, List.mem_cons] at h
    rcases h with rfl | h
    · have := hr a (List.mem_cons_self ..)
      omega
    · exact zipWith_nonneg (fun y m => hr y (List.mem_cons_of_mem _ m)) (fun y m => hs y (List.mem_cons_of_mem _ m)) x h
theorem Wd.nonneg {many : Nat} {acts : List Act} {known : List (List Int)} (h : Wd many acts known) : ∀ r ∈ known, ∀ x ∈ r, 0 ≤ x := by
  induction h with
  | nil =>
    intro r m x mx
    rw [(List.mem_replicate.mp m).2] at mx
    rw [(List.mem_replicate.mp mx).2]
    exact Int.le_refl 0
  | @step acts known i row row' c wt w hi hr hc ok ih =>
    have h' : ∀ x ∈ row', 0 ≤ x := by
      rcases hr with rfl | ⟨j, ro, hj, rfl⟩
      · exact ih _ (List.mem_of_getElem? hi)
      · exact zipWith_nonneg (ih _ (List.mem_of_getElem? hi)) (ih _ (List.mem_of_getElem? hj))
    intro r m x mx
    rcases List.mem_or_eq_of_mem_set m with m | rfl
    · exact ih r m x mx
    · rcases List.mem_or_eq_of_mem_set mx with mx | rfl
      · exact h' x mx
      · have := h' c (List.mem_of_getElem? hc)
        omega
/-- what is plain of every deed of a world -/
theorem Wd.plain {many : Nat} {acts : List Act} {known : List (List Int)} (h : Wd many acts known) : ∀ a ∈ acts, a.note.length = many ∧ (∀ x ∈ a.note, 0 ≤ x) ∧ a.what.Fit := by
  induction h with
  | nil => intro a m; cases m
  | @step acts known i row row' c wt w hi hr hc ok ih =>
    intro a m
    rcases List.mem_append.mp m with m | m
    · exact ih a m
    · rw [List.mem_singleton.mp m]
      have hl := w.lens.2
      have hn := w.nonneg
      refine ⟨?_, ?_, What.Ok.fit ok⟩
      · rcases hr with rfl | ⟨j, ro, hj, rfl⟩
        · exact hl _ (List.mem_of_getElem? hi)
        · show (List.zipWith max row ro).length = many
          rw [List.length_zipWith, hl _ (List.mem_of_getElem? hi), hl _ (List.mem_of_getElem? hj), Nat.min_self]
      · rcases hr with rfl | ⟨j, ro, hj, rfl⟩
        · exact hn _ (List.mem_of_getElem? hi)
        · exact zipWith_nonneg (hn _ (List.mem_of_getElem? hi)) (hn _ (List.mem_of_getElem? hj))
theorem cut_take (xs : List V) (k : Nat) : cutV xs none (some (k : Int)) = xs.take k := by
  unfold cutV
  rw [HT.sIx_none, HT.sIx_nat, List.drop_zero, Nat.sub_zero]
  by_cases h : k ≤ xs.length
  · rw [Nat.min_eq_left h]
  · rw [Nat.min_eq_right (by omega), List.take_length, List.take_of_length_le (by omega)]
def spLaw (K : PySem.W.Frag) : Sp := fun vs H Q _ => ∃ (a : Addr) (ns : List Int), vs = [.ref a] ∧ SqL K H a (ns.map V.int) ∧ ns.length ≤ 63 ∧ ∀ H', Q (.bl true) H'
end FR

/-! Rules of calls that the proofs need beside the layer's: sum and min of a tuple of ints, set of a list of ints. -/
namespace FR
open PySem PySem.Spec PyProof.Rows L2
theorem pre_take (ns : List Int) : ∀ j, preSum (fun i => ns.getD i 0) j = (ns.take j).sum
  | 0 => by
    rw [List.take_zero]
    rfl
  | j + 1 => by
    have ih := pre_take ns j
    show preSum (fun i => ns.getD i 0) j + ns.getD j 0 = (ns.take (j + 1)).sum
    rw [ih, List.take_add_one]
    cases e : ns[j]? with
    | none => simp [List.getD, e]
    | some z => simp [List.getD, e]
section
variable {prog : Program} {w : World} {A : Around} {E : Value → Shared → Prop} {s : Shared} {l : Addr} {its : List Value} {ns : List Int}
/-- what an iterator over a tuple is at its start -/
theorem tup_start (hl : IsTup s.heap l its.toArray) {Q : Value → Shared → Prop}
    (h : ∀ hp : Heap, hp = s.heap.push { cls := .type "tuple_iterator", data := .fields #[.ref l, .int 0 0] } → l ≠ s.heap.objs.size → hp.IsTupleIter s.heap.objs.size l 0 → hp.IsTuple l its.toArray →
      (∀ b ∈ [s.heap.objs.size, l], b < hp.objs.size) → Q (.ref s.heap.objs.size) { s with heap := hp }) : wpAny (model prog w) A (pyIter (.ref l)) Q E s := by
  have lt : l < s.heap.objs.size := by
    obtain ⟨o, e, r⟩ := hl
    exact Heap.lt_size e
  refine wpAny_pyIter_tuple hl (h _ rfl (Nat.ne_of_lt lt) ⟨_, Heap.get?_push_size _ rfl, rfl, rfl⟩ (Heap.IsTuple.push hl _) fun b mb => ?_)
  have sz : (s.heap.push { cls := .type "tuple_iterator", data := .fields #[.ref l, .int 0 0] }).objs.size = s.heap.objs.size + 1 := Heap.size_push ..
  simp only [List.mem_cons, List.not_mem_nil, or_false] at mb
  rw [sz]
  rcases mb with rfl | rfl
  · exact Nat.lt_succ_self _
  · exact Nat.lt_succ_of_lt lt
theorem kept_push {hp : Heap} {o : Obj} (hk : ∀ b u, b ∉ [s.heap.objs.size] → (s.heap.push o).get? b = some u → hp.get? b = some u) : ∀ b u, s.heap.get? b = some u → hp.get? b = some u := fun b u e => by
  have lt := Heap.lt_size e
  refine hk b u ?_ (Heap.get?_push_of_some _ e)
  simp only [List.mem_cons, List.not_mem_nil, or_false]
  exact Nat.ne_of_lt lt
theorem tup_val (hi : IntsAre its ns) : ∀ (i : Nat) (v : Value), its.toArray[i]? = some v → ∃ t, v = .int (ns.getD i 0) t := fun i v e =>
  PyProof.Rows.IntsAre.int_at hi i v (by simpa using e)
theorem sum_tup {Q : Value → Shared → Prop} (hh : A.handled = none) (hl : IsTup s.heap l its.toArray) (hi : IntsAre its ns)
    (h : ∀ hp tk t', (∀ b o, s.heap.get? b = some o → hp.get? b = some o) → Q (.int ns.sum t') { s with heap := hp, toks := tk }) : wpAny (model prog w) A (call (.builtin "sum") [.ref l]) Q E s := by
  refine call_sum_walkG (tup_start hl fun hp ep ne st0 st1 hf => ?_)
  subst ep
  refine ⟨_, _, _, _, _, _, fun i => ns.getD i 0, rfl, Walks.tuple (A := A.in1) (by simpa using hh) s.heap.objs.size l ne its.toArray, ⟨st0, st1⟩, hf, tup_val hi, fun h2 tk t' hk => ?_⟩
  have e : preSum (fun i => ns.getD i 0) its.toArray.size = ns.sum := by
    rw [pre_take, List.take_of_length_le]
    have q := IntsAre.length hi
    simp
    omega
  rw [e]
  exact h h2 tk t' (kept_push hk)
theorem min_tup {Q : Value → Shared → Prop} (hh : A.handled = none) (hl : IsTup s.heap l its.toArray) (hi : IntsAre its ns) (hne : 0 < ns.length)
    (h : ∀ hp tk m t', (∀ b o, s.heap.get? b = some o → hp.get? b = some o) → m ∈ ns → (∀ a, a ∈ ns → m ≤ a) → Q (.int m t') { s with heap := hp, toks := tk }) : wpAny (model prog w) A (call (.builtin "min") [.ref l]) Q E s := by
  have hlen := IntsAre.length hi
  refine call_min_walk (tup_start hl fun hp ep ne st0 st1 hf => ?_)
  subst ep
  refine ⟨_, _, _, _, _, _, _, rfl, Walks.tuple (A := A.in1) (by simpa using hh) s.heap.objs.size l ne its.toArray, ⟨st0, st1⟩, hf, by simp; omega, CmpOf.ints_lt (fun i => ns.getD i 0) (tup_val hi), fun v h2 tk hv hk => ?_⟩
  obtain ⟨t, rfl⟩ := tup_val hi _ _ hv
  obtain ⟨b1, b2⟩ := argBest_lt (fun i => ns.getD i 0) (its.toArray.size - 1)
  have sz : its.toArray.size = ns.length := by simp; omega
  refine h h2 tk _ t (kept_push hk) ?_ fun a ma => ?_
  · exact PySem.getD_mem (by omega)
  · obtain ⟨j, hj, rfl⟩ := List.mem_iff_getElem.mp ma
    have q := b2 j (by omega)
    rw [show ns[j] = ns.getD j 0 by simp [List.getD, hj]]
    exact q
end
section
variable {X : Cx}
theorem cr_sumT (hc : X.calm = true) : CallR X (.builtin "sum") (fun vs H Q => ∃ (a : Addr) (ns : List Int), vs = [V.ref a] ∧ SqT X.K H a (ns.map V.int) ∧ Q (.int ns.sum) H) := by
  intro pins s σ H vs us Q I r h
  obtain ⟨a, ns, rfl, hs, q⟩ := h
  obtain ⟨its, rv, hl, hz⟩ := I.tuple hs
  rw [Vals.ref1 r]
  exact sum_tup (I.ok.hd hc) hl rv.ints fun hp tk t' hk => ⟨.int _, H, I.kept hk, ⟨_, rfl⟩, q⟩
theorem cr_minT (hc : X.calm = true) : CallR X (.builtin "min") (fun vs H Q => ∃ (a : Addr) (ns : List Int), vs = [V.ref a] ∧ SqT X.K H a (ns.map V.int) ∧ 0 < ns.length ∧ ∀ m, m ∈ ns → (∀ y, y ∈ ns → m ≤ y) → Q (.int m) H) := by
  intro pins s σ H vs us Q I r h
  obtain ⟨a, ns, rfl, hs, hne, q⟩ := h
  obtain ⟨its, rv, hl, hz⟩ := I.tuple hs
  rw [Vals.ref1 r]
  exact min_tup (I.ok.hd hc) hl rv.ints hne fun hp tk m t' hk h1 h2 => ⟨.int _, H, I.kept hk, ⟨_, rfl⟩, q m h1 h2⟩
end
section
variable {X : Cx} {CX : CXT} {k n : Nat} {f : Addr} {fd : FuncData} {ps ks : List Str} {sp : Sp} {E : XK} {x : Str} {p pos : Pos} {kws : List Keyword} {tk : TA} {g : List Value → List Value → List Value} {gV : List V → List V → List V}
/-- f(k = v, ..): keywords alone -/
theorem pe_callKw (F : FnOk X.prog X.w X.K X.mg X.base CX k f fd ps sp) (hr : Room k X.A) (hg : Gl X x) (hm : X.mg x = some (.ref f)) (hk : PySem.W.keepIn X.K (.ref f) = true) (hb : KBn X.K fd ps 0 ks g gV) (hx : Passes CX X E) (hkw : PK X kws tk)
    (hall : (backToKw pos (keywordEach kws X.env)).all (·.1.isSome) = true := by rfl) (hks : (backToKw pos (keywordEach kws X.env)).filterMap (·.1) = ks := by rfl) (hdb : (x == ("__debug__" : Str)) = false := by decide)
    (hpl : ((backTo pos (starEach [] X.env)).any (·.1) || (backToKw pos (keywordEach kws X.env)).any (·.1.isNone)) = false := by rfl) : PE X (.Call (.Name x p) [] kws pos) (tCallN 0 ks.length sp gV E tNil tk) := by
  constructor
  intro pins s σ H Q I h
  refine wpAny_Call_Name_kw (ld_glob I hg hm (PySem.W.callWith_KW0 (h₀ := X.base) I.ok.mod.kin hk hall (thn (hkw.run pos pins s σ H _ I h) fun ws s2 ⟨zs, H2, I2, rz, l1, l2, q2⟩ => ⟨I2.kIn, ?_⟩) hpl) hdb)
  rw [hks]
  exact run_fnN (us := []) (vs := []) F hr hb hx I2 .nil rz rfl l2 q2
/-- how such a call binds, for a def without defaults -/
theorem kbn_of {K : PySem.W.Frag} {nm qual : Str} {st : Stmt} (F : Fun K nm qual st f fd) (n : Nat)
    (h : ∀ (kV doc pm : Value) (an : Option Addr) (cdv ct : Value) (us ws : List Value), us.length = n → ws.length = ks.length → bindArgs (PySem.W.fnOf nm qual (defArgs st) (defBody st) (defScope st) .none kV doc pm an cdv ct) ⟨us, ks.zip ws⟩ = pure (ps.zip (g us ws)))
    (hrel : ∀ {vs : List V} {us : List Value} {zs : List V} {ws : List Value}, Vals vs us → Vals zs ws → Vals (gV vs zs) (g us ws)) : KBn K fd ps n ks g gV := by
  obtain ⟨oc, od, kV, doc, pm, an, cdv, ct, osl, rfl, lk, hcd⟩ := F.ex
  exact ⟨fun s us ws _ l1 l2 => .of_eq (h kV doc pm an cdv ct us ws l1 l2), hrel⟩
def swap2 {α : Type} : List α → List α → List α
  | _, [m, d] => [d, m]
  | _, _ => []
theorem swap2_rel {vs : List V} {us : List Value} {zs : List V} {ws : List Value} (_ : Vals vs us) (r : Vals zs ws) : Vals (swap2 vs zs) (swap2 us ws) := by
  cases r with
  | nil => exact .nil
  | cons a t => cases t with
    | nil => exact .nil
    | cons b t => cases t with
      | nil => exact .cons b (.cons a .nil)
      | cons c t => exact .nil
def kwsOnly {α : Type} (_ ws : List α) : List α := ws
theorem kwsOnly_rel {vs : List V} {us : List Value} {zs : List V} {ws : List Value} (_ : Vals vs us) (r : Vals zs ws) : Vals (kwsOnly vs zs) (kwsOnly us ws) := r
end
end FR

/-! Sorting by tuples that begin with ints: sorted(xs), sorted(xs, key=f) with a def f, any length. -/
namespace FR
open PySem PySem.Spec PyProof.Rows L2 SrtO
/-! ### the order of lists of ints -/
theorem lex_tot : ∀ a b : List Int, HT.lexLt a b = false → HT.lexLt b a = false → a = b
  | [], [], _, _ => rfl
  | [], _ :: _, h, _ => nomatch h
  | _ :: _, [], _, h => nomatch h
  | x :: a, y :: b, h, k => by
    rw [HT.lexLt_cons] at h k
    by_cases e : x = y
    · rw [if_pos e] at h
      rw [if_pos e.symm] at k
      rw [e, lex_tot a b h k]
    · rw [if_neg e, decide_eq_false_iff_not] at h
      rw [if_neg (fun q => e q.symm), decide_eq_false_iff_not] at k
      omega
theorem lex_irr : ∀ a : List Int, HT.lexLt a a = false
  | [] => rfl
  | x :: a => by
    rw [HT.lexLt_cons, if_pos rfl]
    exact lex_irr a
theorem lex_asym : ∀ a b : List Int, HT.lexLt a b = true → HT.lexLt b a = false
  | [], [], h => nomatch h
  | [], _ :: _, _ => rfl
  | _ :: _, [], h => nomatch h
  | x :: a, y :: b, h => by
    rw [HT.lexLt_cons] at h ⊢
    by_cases e : x = y
    · rw [if_pos e] at h
      rw [if_pos e.symm]
      exact lex_asym a b h
    · rw [if_neg e, decide_eq_true_eq] at h
      rw [if_neg (fun q => e q.symm), decide_eq_false_iff_not]
      omega
theorem lex_trans : ∀ a b c : List Int, HT.lexLt a b = true → HT.lexLt b c = true → HT.lexLt a c = true
  | [], [], _, h, _ => nomatch h
  | [], _ :: _, [], _, k => nomatch k
  | [], _ :: _, _ :: _, _, _ => rfl
  | _ :: _, [], _, h, _ => nomatch h
  | _ :: _, _ :: _, [], _, k => nomatch k
  | x :: a, y :: b, z :: c, h, k => by
    rw [HT.lexLt_cons] at h k ⊢
    by_cases e : x = y
    · rw [if_pos e] at h
      by_cases f : y = z
      · rw [if_pos f] at k
        rw [if_pos (e.trans f)]
        exact lex_trans a b c h k
      · rw [if_neg f] at k
        rw [if_neg (e ▸ f), e]
        exact k
    · rw [if_neg e, decide_eq_true_eq] at h
      by_cases f : y = z
      · rw [← f, if_neg e, decide_eq_true_eq]
        exact h
      · rw [if_neg f, decide_eq_true_eq] at k
        rw [if_neg (by omega), decide_eq_true_eq]
        omega
theorem lex_swo {α : Type} (k : α → List Int) : Swo fun x y => HT.lexLt (k x) (k y) := by
  refine ⟨fun x y h => lex_asym _ _ h, fun x y z h1 h2 => ?_⟩
  cases h : HT.lexLt (k z) (k x) with
  | false => rfl
  | true =>
    cases h3 : HT.lexLt (k x) (k y) with
    | true => exact absurd (lex_trans _ _ _ h h3) (by rw [h2]; exact Bool.false_ne_true)
    | false =>
      rw [lex_tot _ _ h1 h3, h] at h2
      cases h2
/-! ### a tuple that begins with ints -/
/-- v is a tuple that begins with the ints ns -/
def Lead (h : Heap) (v : Value) (ns : List Int) : Prop := ∃ (a : Addr) (o : Obj) (us rs : List Value) (n : Nat), v = .ref a ∧ h.get? a = some o ∧ o.cls = .type "tuple" ∧ o.data = .seq (us ++ rs).toArray n ∧ IntsAre us ns
theorem Lead.keeps {h h' : Heap} {v : Value} {ns : List Int} (p : Lead h v ns) (k : ∀ b o, h.get? b = some o → o.cls = .type "tuple" → h'.get? b = some o) : Lead h' v ns := by
  obtain ⟨a, o, us, rs, n, e, ho, hc, hd⟩ := p
  exact ⟨a, o, us, rs, n, e, k _ _ ho hc, hc, hd⟩
section
variable {prog : Program} {w : World} {A : Around} {E : Value → Shared → Prop} {s : Shared}
theorem less_ints (c : Bool) {p q : Int} {t u : Tok} {Q : Bool → Shared → Prop} (h : Q (decide (p < q)) s) : wpAny (model prog w) A (oneLt' c (.int p t) (.int q u)) Q (fun _ _ => False) s := by
  cases c
  · exact PySem.W.kat_one _ _ (PyProof.Rows.lt_int (Q := PySem.W.BoolBack Q) h)
  · exact oneLt_int h
/-- walking two such tuples: the ints decide -/
theorem lead_run {fin b : Bool} {r : Bool} {rest : List (Value × Value)} : ∀ (ns ms : List Int) (us ws : List Value) (i : Nat), IntsAre us ns → IntsAre ws ms → ns.length = ms.length → ns ≠ ms → HT.lexLt ns ms = r →
    PySem.W.KatLex prog w A b fin (fun q s' => s' = s ∧ q = r) (us.zip ws ++ rest) i s
  | [], [], _, _, _, _, _, _, h, _ => absurd rfl h
  | [], _ :: _, _, _, _, _, _, h, _, _ => nomatch h
  | _ :: _, [], _, _, _, _, _, h, _, _ => nomatch h
  | x :: ns, y :: ms, _, _, i, .cons _ t hu, .cons _ u hw, hl, hn, hr => by
    refine PySem.W.kat_cons (SeqAt.EqAt.int_int x t y u prog w _ _ ?_)
    refine PySem.W.kat_go (fun e => ?_) (fun e => ?_)
    · have ex : x = y := by simpa using e
      rw [HT.lexLt_cons, if_pos ex] at hr
      exact PySem.W.kat_yes (lead_run ns ms _ _ (i + 1) hu hw (Nat.succ.inj hl) (fun q => hn (by rw [ex, q])) hr)
    · have ex : ¬ x = y := by simpa using e
      rw [HT.lexLt_cons, if_neg ex] at hr
      exact PySem.W.kat_no (less_ints _ ⟨rfl, hr⟩)
/-- a tuple beside itself: its things are the same ones -/
theorem same_run {b : Bool} : ∀ (us : List Value) (i : Nat), PySem.W.KatLex prog w A b false (fun q s' => s' = s ∧ q = false) (us.zip us) i s
  | [], _ => PySem.W.kat_nil ⟨rfl, rfl⟩
  | v :: us, i => PySem.W.kat_cons (SeqAt.EqAt.same v prog w _ _ (PySem.W.kat_yes (same_run us (i + 1))))
/-- any two of the list's keys compare by their ints: they are of one length, and where they are the same the keys are one -/
theorem lead_cmp {ks : List Value} {k : Value → List Int} {d : Nat} (hp : ∀ v ∈ ks, Lead s.heap v (k v)) (hd : ∀ v ∈ ks, (k v).length = d) (hu : ∀ v ∈ ks, ∀ u ∈ ks, k v = k u → v = u) :
    Cmp prog w A s (tuples' true) (fun p => p.1 ∈ ks) (lt2 fun v u => HT.lexLt (k v) (k u)) := by
  intro p q hm hm'
  show wpAny (model prog w) A (keyLt' (tuples' true) p.1 q.1) (fun r s' => s' = s ∧ r = HT.lexLt (k p.1) (k q.1)) (fun _ _ => False) s
  obtain ⟨a, o, us, rs, n, e, ho, hc, hdt, hi⟩ := hp _ hm
  obtain ⟨a', o', us', rs', n', e', ho', hc', hdt', hi'⟩ := hp _ hm'
  by_cases hk : k p.1 = k q.1
  · have hpq := hu _ hm _ hm' hk
    rw [← hpq, lex_irr, e]
    refine PySem.W.kat_lt ho hdt ho hdt ?_
    rw [decide_eq_false (Nat.lt_irrefl _)]
    exact same_run _ 0
  · have fin : ∀ r, HT.lexLt (k p.1) (k q.1) = r → PySem.W.KatLex prog w A true (decide ((us ++ rs).toArray.size < (us' ++ rs').toArray.size)) (fun q s' => s' = s ∧ q = r) (us.zip us' ++ rs.zip rs') 0 s := fun r er =>
      lead_run _ _ us us' 0 hi hi' (by rw [hd _ hm, hd _ hm']) hk er
    have f2 := fin _ rfl
    generalize HT.lexLt (k p.1) (k q.1) = r at f2
    rw [e, e']
    refine PySem.W.kat_lt ho hdt ho' hdt' ?_
    have hl : us.length = us'.length := by rw [IntsAre.length hi, IntsAre.length hi', hd _ hm, hd _ hm']
    have ez : (us ++ rs).toArray.toList.zip (us' ++ rs').toArray.toList = us.zip us' ++ rs.zip rs' := by
      show (us ++ rs).zip (us' ++ rs') = _
      exact List.zip_append hl
    rw [ez]
    exact f2
theorem lead_firsts {h : Heap} {k : Value → List Int} : ∀ {ks : List Value}, (∀ v ∈ ks, Lead h v (k v)) → (∀ v ∈ ks, 1 ≤ (k v).length) → ∃ fs : List Value, PySem.W.KatTups h ks fs ∧ fs.length = ks.length ∧ ∀ f ∈ fs, ∃ x t, f = Value.int x t
  | [], _, _ => ⟨[], PySem.W.KatTups.nil, rfl, fun _ hm => by simp at hm⟩
  | v :: ks, hp, hd => by
    obtain ⟨fs, h1, h2, h3⟩ := lead_firsts (ks := ks) (fun u m => hp u (List.mem_cons_of_mem _ m)) (fun u m => hd u (List.mem_cons_of_mem _ m))
    obtain ⟨a, o, us, rs, n, e, ho, hc, hdt, hi⟩ := hp v (List.mem_cons_self ..)
    have h1' := hd v (List.mem_cons_self ..)
    generalize k v = ns0 at hi h1'
    subst e
    cases hi with
    | nil => exact absurd h1' (by simp)
    | @cons x t us ns r =>
      refine ⟨.int x t :: fs, PySem.W.KatTups.cons ho hc hdt (by simp) h1, by rw [List.length_cons, List.length_cons, h2], fun f hm => ?_⟩
      rcases List.mem_cons.mp hm with rfl | hm
      · exact ⟨x, t, rfl⟩
      · exact h3 f hm
theorem lead_kind {ks : List Value} {k : Value → List Int} {Q : SortKind → Shared → Prop} (h0 : 0 < ks.length) (hp : ∀ v ∈ ks, Lead s.heap v (k v)) (hd : ∀ v ∈ ks, 1 ≤ (k v).length) (h : Q (tuples' true) s) :
    wpAny (model prog w) A (keyKind' ks.toArray) Q E s := by
  obtain ⟨fs, h1, h2, h3⟩ := lead_firsts hp hd
  have e : (Value.type "int" != Value.type "tuple") = true := by first | decide +kernel | rfl | decide
  refine PySem.W.kat_kind (T := .type "int") h1 (by omega) (fun f hm => ?_) (by rfl) (by rw [e]; exact h)
  obtain ⟨x, t, rfl⟩ := h3 f hm
  exact PySem.W.Looks.now
end
end FR

/-! sorted(xs, key=f), f a def that gives a tuple of ints, any length. -/
namespace FR
open PySem PySem.Spec PyProof.Rows L2 SrtO
/-- v is a tuple of the ints ns, at least one -/
def IsInts (h : Heap) (v : Value) (ns : List Int) : Prop := ∃ (a : Addr) (o : Obj) (us : List Value) (n : Nat), v = .ref a ∧ h.get? a = some o ∧ o.cls = .type "tuple" ∧ o.data = .seq us.toArray n ∧ IntsAre us ns
theorem IsInts.lead {h : Heap} {v : Value} {ns : List Int} (p : IsInts h v ns) : Lead h v ns := by
  obtain ⟨a, o, us, n, e, ho, hc, hd, hi⟩ := p
  exact ⟨a, o, us, [], n, e, ho, hc, by rw [List.append_nil]; exact hd, hi⟩
section
variable {prog : Program} {w : World} {A : Around} {E : Value → Shared → Prop} {s : Shared}
theorem even_run {b : Bool} : ∀ (ns : List Int) (us ws : List Value) (i : Nat), IntsAre us ns → IntsAre ws ns → PySem.W.KatLex prog w A b false (fun q s' => s' = s ∧ q = false) (us.zip ws) i s
  | [], _, _, i, .nil, .nil => PySem.W.kat_nil ⟨rfl, rfl⟩
  | x :: ns, _, _, i, .cons _ t hu, .cons _ u hw => by
    refine PySem.W.kat_cons (SeqAt.EqAt.int_int x t x u prog w _ _ ?_)
    refine PySem.W.kat_go (fun e => ?_) (fun e => ?_)
    · exact PySem.W.kat_yes (even_run ns _ _ (i + 1) hu hw)
    · exact absurd e (by simp)
theorem ints_lt {v u : Value} {ns ms : List Int} (hv : IsInts s.heap v ns) (hu : IsInts s.heap u ms) (hl : ns.length = ms.length) :
    wpAny (model prog w) A (keyLt' (tuples' true) v u) (fun r s' => s' = s ∧ r = HT.lexLt ns ms) (fun _ _ => False) s := by
  obtain ⟨a, o, us, n, e, ho, hc, hd, hi⟩ := hv
  obtain ⟨a', o', ws, n', e', ho', hc', hd', hi'⟩ := hu
  have hsz : us.length = ws.length := by rw [IntsAre.length hi, IntsAre.length hi', hl]
  rw [e, e']
  refine PySem.W.kat_lt ho hd ho' hd' ?_
  have ef : decide (us.toArray.size < ws.toArray.size) = false := by
    rw [List.size_toArray, List.size_toArray, hsz]
    exact decide_eq_false (Nat.lt_irrefl _)
  rw [ef]
  by_cases hk : ns = ms
  · subst hk
    rw [lex_irr]
    exact even_run ns us ws 0 hi hi'
  · have q := lead_run (prog := prog) (w := w) (A := A) (s := s) (fin := false) (b := true) (r := HT.lexLt ns ms) (rest := []) ns ms us ws 0 hi hi' hl hk rfl
    rw [List.append_nil] at q
    exact q
theorem leads_kind {ks : List Value} {Q : SortKind → Shared → Prop} (h0 : 0 < ks.length) (hp : ∀ v ∈ ks, ∃ ns, Lead s.heap v ns ∧ 1 ≤ ns.length) (h : Q (tuples' true) s) : wpAny (model prog w) A (keyKind' ks.toArray) Q E s := by
  have hk : ∀ v ∈ ks, Lead s.heap v (Classical.epsilon fun ns => Lead s.heap v ns ∧ 1 ≤ ns.length) ∧ 1 ≤ (Classical.epsilon fun ns => Lead s.heap v ns ∧ 1 ≤ ns.length).length := fun v hv => Classical.epsilon_spec (hp v hv)
  exact lead_kind (k := fun v => Classical.epsilon fun ns => Lead s.heap v ns ∧ 1 ≤ ns.length) h0 (fun v hv => (hk v hv).1) (fun v hv => (hk v hv).2) h
end
/-- the keys beside the items -/
def KeyedBy (k : V → List Int) (h : Heap) : List Value → List V → Prop := Paired fun v x => IsInts h v (k x)
theorem paired_zip {α β : Type} {F : α → β → Prop} : ∀ {l : List α} {m : List β}, Paired F l m → ∀ p ∈ l.zip m, F p.1 p.2
  | _, _, .nil, p, hp => by simp at hp
  | _, _, .cons q t, p, hp => by
    rw [List.zip_cons_cons] at hp
    rcases List.mem_cons.mp hp with rfl | hp
    · exact q
    · exact paired_zip t p hp
theorem paired_in {F : Value → V → Prop} : ∀ {l : List Value} {m : List V}, Paired F l m → Paired (fun v x => F v x ∧ x ∈ m) l m
  | _, _, .nil => .nil
  | _, _, .cons q t => .cons ⟨q, List.mem_cons_self⟩ (Paired.mapP (paired_in t) fun _ _ z => ⟨z.1, List.mem_cons_of_mem _ z.2⟩)
theorem paired_unmap {F : Value → V → Prop} {g : Value → V} : ∀ {l m : List Value}, Paired F l (m.map g) → Paired (fun v u => F v (g u)) l m
  | [], [], _ => .nil
  | _ :: _, [], h => nomatch h
  | [], _ :: _, h => nomatch h
  | _ :: _, _ :: _, .cons q t => .cons q (paired_unmap t)
theorem srtd_less2 {α : Type} {lt : α → α → Bool} : ∀ {l : List α}, l.length < 2 → Srtd lt l
  | [], _ => List.Pairwise.nil
  | [x], _ => srtd_one x
  | _ :: _ :: _, h => absurd h (by simp)
def rSortKey (K : PySem.W.Frag) (sp : Sp) (E0 : XK) (f : Addr) : List V → List V → Hp → VK → Prop := fun vs zs H Q => ∃ (a : Addr) (xs : List V) (k : V → List Int) (d : Nat), vs = [V.ref a] ∧ zs = [V.ref f] ∧ SqL K H a xs ∧ 1 ≤ d ∧
  (∀ x ∈ xs, ∃ t, x = V.ref t) ∧ (∀ x ∈ xs, (k x).length = d) ∧
  (∀ x ∈ xs, ∀ H', Same H H' → sp [x] H' (fun z H2 => Same H' H2 ∧ ∃ p, z = .ref p ∧ H2 p = some (.tup ((k x).map V.int))) E0) ∧
  ∀ ys p H', Srtd (fun x y => HT.lexLt (k x) (k y)) ys → Stb (fun x y => HT.lexLt (k x) (k y)) ys xs → Same H H' → H' p = none → H p = none → Q (.ref p) (upd H' p (.lst ys))
section
variable {X : Cx} {CX : CXT} {n : Nat} {f : Addr} {sp : Sp} {E0 : XK} {pins : List (Addr × Obj)} {σ : L2.St} {H : Hp}
/-- a record of ours stays through a call -/
theorem un_kept {H1 H2 : Hp} {h1 h2 : Heap} {b : Addr} {o : Obj} {s : Shared} (I : Inv X pins σ H s) (u : Un (frs X.stack) [] H1 H2 h1 h2) (fb : FpOk X pins H1 b) (e : h1.get? b = some o) : h2.get? b = some o ∧ FpOk X pins H2 b :=
  ⟨u.keep b o e fb.1 (fun z => (List.mem_cons.mp (I.stkSub b z)).elim fb.2.1 fb.2.2.1) List.not_mem_nil, u.free b o e fb.1 List.not_mem_nil, fb.2⟩
theorem key_call (F : FnR X.prog X.w X.K X.mg X.base CX n f sp) (hr : Room n X.A.in1.in1) (hx : ∀ outer H s e s', ¬ CX outer H s E0 e s') {H' : Hp} {s' : Shared} {x : V} {u : Value} {Qk : VK} (I : Inv X pins σ H' s') (r : RelV x u) (h : sp [x] H' Qk E0) :
    wpAny (model X.prog X.w) X.A.in1.in1 (call (.ref f) [u]) (fun w s2 => ∃ v H2, Un (frs X.stack) [] H' H2 s'.heap s2.heap ∧ Inv X pins σ H2 s2 ∧ RelV v w ∧ Qk v H2) (fun _ _ => False) s' := by
  refine wpAny_call (codeAny_mono (F X.A.in1.in1 X.stack s' H' [u] [x] Qk E0 hr I.env0.in1.in1 (.cons r .nil) h) fun rr s2 hq => ?_)
  cases rr with
  | error e => exact (hx _ _ _ _ _ hq).elim
  | ok fl =>
    cases fl with
    | next => exact False.elim hq
    | brk => exact False.elim hq
    | cont => exact False.elim hq
    | ret w =>
      obtain ⟨v, H2, os, bare, un, hok, rv, q⟩ := (show CE X.stack X.prog X.w H' _ _ w s2 from hq)
      exact ⟨v, H2, un, I.call' os un hok bare (fun b y => absurd y List.not_mem_nil), rv, q⟩
def KeysIn (k : V → List Int) (H : Hp) : List Value → List V → Prop := Paired fun v x => ∃ p, v = .ref p ∧ H p = some (.tup ((k x).map V.int))
theorem KeysIn.keeps {k : V → List Int} {H H' : Hp} (s : Same H H') {vs : List Value} {xs : List V} (r : KeysIn k H vs xs) : KeysIn k H' vs xs := Paired.mapP r fun v x ⟨p, e, h⟩ => ⟨p, e, s _ _ h⟩
theorem KeysIn.ints {k : V → List Int} {P : Program} {w : World} {h : Heap} (ok : HOk P w H h) {vs : List Value} {xs : List V} (r : KeysIn k H vs xs) : KeyedBy k h vs xs := Paired.mapP r fun v x ⟨p, e, hp⟩ => by
  obtain ⟨_, us, r2, o, ho, hc, m, hd⟩ := ok _ _ hp
  exact ⟨p, o, us, m, e, ho, hc, hd, r2.ints⟩
/-- what is left behind the keys: the sort itself, the list -/
theorem key_end {A : Around} {a kS : Addr} {keys its : List Value} {xs : List V} {e e1 d : Nat} {k : V → List Int} {s : Shared} {R : PySem.Fin → Shared → Prop} {E' : Value → Shared → Prop} (I : Inv X pins σ H s) (fa : FpOk X pins H a) (fk : FpOk X pins H kS) (hka : kS ≠ a)
    (nk : s.heap.get? kS = some (seqObj "list" keys.toArray e)) (na : s.heap.get? a = some (seqObj "list" #[] e1)) (kp : KeysIn k H keys xs) (rv : Vals xs its) (href : ∀ x ∈ xs, ∃ t, x = V.ref t) (hd : ∀ x ∈ xs, (k x).length = d) (hd1 : 1 ≤ d) (hz : xs.length ≤ sizeLine)
    (h : ∀ ys s', Srtd (fun x y => HT.lexLt (k x) (k y)) ys → Stb (fun x y => HT.lexLt (k x) (k y)) ys xs → Inv X pins σ (upd H a (.lst ys)) s' → R (.done (.ret .none)) s') :
    wpAny (model X.prog X.w) A (PyProof.Rows.ksk_end a false its.toArray e1 (.ref kS) keys.toArray) R E' s := by
  obtain ⟨eb, er⟩ := refs_back rv href
  have hl : its.length = xs.length := rv.length.symm
  have hkl : keys.length = xs.length := Paired.length kp
  have kb : KeyedBy k s.heap keys xs := kp.ints I.hok
  have ez : (keys.toArray.zip its.toArray).toList = keys.zip its := PyProof.Rows.ksk_zip _ _
  have hmem : ∀ p ∈ keys.zip its, IsInts s.heap p.1 (k (backV p.2)) ∧ backV p.2 ∈ xs := fun p hp => by
    have q : Paired (fun v u => IsInts s.heap v (k (backV u)) ∧ backV u ∈ xs) keys its := by
      have q2 : Paired (fun v x => IsInts s.heap v (k x) ∧ x ∈ xs) keys (its.map backV) := by
        rw [← eb]
        exact paired_in kb
      exact paired_unmap q2
    exact paired_zip q p hp
  have fin : ∀ st' : SortSt, failedOf st' = none → Srtd (fun p q : Keyed => HT.lexLt (k (backV p.2)) (k (backV q.2))) (arrOf st').toList → Stb (fun p q : Keyed => HT.lexLt (k (backV p.2)) (k (backV q.2))) (arrOf st').toList (keys.zip its) →
      wpAny (model X.prog X.w) A (PyProof.Rows.ksk_tail a false e1 (.ref kS) st') R E' s := by
    intro st' hf h1 h2
    have g1 : Srtd (fun x y => HT.lexLt (k x) (k y)) ((arrOf st').toList.map fun p => backV p.2) := srtd_map h1
    have em : (keys.zip its).map (fun p => backV p.2) = xs := by
      rw [eb]
      have e2 : (keys.zip its).map (fun p => backV p.2) = ((keys.zip its).map Prod.snd).map backV := by rw [List.map_map]; rfl
      rw [e2, List.map_snd_zip (by omega)]
    have g2 : Stb (fun x y => HT.lexLt (k x) (k y)) ((arrOf st').toList.map fun p => backV p.2) xs := by
      have z := Stb.map (lt := fun x y => HT.lexLt (k x) (k y)) (lex_swo k) (fun p : Keyed => backV p.2) h2
      rw [em] at z
      exact z
    have hlo : (arrOf st').toList.length = xs.length := by rw [← g2.len, List.length_map]
    have eo : ((arrOf st').map (·.2)) = ((arrOf st').toList.map (·.2)).toArray := by
      apply Array.ext'
      rw [Array.toList_map]
    have hrefs : ∀ u ∈ (arrOf st').toList.map (·.2), ∃ t, u = Value.ref t := fun u hu => by
      obtain ⟨p, hp, rfl⟩ := List.mem_map.mp hu
      exact er _ (List.of_mem_zip (a := p.1) (b := p.2) (h2.perm.mem_iff.mp hp)).2
    have vb : Vals ((arrOf st').toList.map fun p => backV p.2) ((arrOf st').toList.map fun p : Keyed => p.2) := by
      have q := vals_back hrefs
      rw [List.map_map] at q
      exact q
    unfold PyProof.Rows.ksk_tail
    try dsimp only
    refine wpAny_bind (listUpdate_at nk rfl ?_ (by rw [List.size_toArray, hkl]; exact hz) (Nat.zero_le _))
    refine wpAny_bind (wpAny_letGo ?_)
    have s1 := Heap.SameBut.update s.heap kS (Obj.mapSeq fun _ => (#[] : Array Value))
    have na1 : (s.heap.update kS (Obj.mapSeq fun _ => (#[] : Array Value))).get? a = some (seqObj "list" #[] e1) := (s1.2 a hka.symm).trans na
    refine wpAny_bind (seqEpoch_at na1 rfl ?_)
    refine wpAny_bind (listUpdate_at na1 rfl ?_ (Nat.zero_le _) ?_)
    · rw [hf]
      simp only [bne_self_eq_false, Bool.false_eq_true, if_false]
      have I1 : Inv X pins σ H { s with heap := s.heap.update kS (Obj.mapSeq fun _ => (#[] : Array Value)) } := I.turnedL (t' := s.toks) (ch := [kS]) (fun b o hb e => (s1.2 b (fun z => hb (by rw [z]; exact List.mem_singleton.mpr rfl))).trans e) (fun b hb => by
        rw [List.mem_singleton.mp hb]
        exact fk)
      have s2 := Heap.SameBut.update (s.heap.update kS (Obj.mapSeq fun _ => (#[] : Array Value))) a (Obj.mapSeq fun _ => (arrOf st').map (·.2))
      obtain ⟨c2, hc2⟩ : ∃ c2, ((s.heap.update kS (Obj.mapSeq fun _ => (#[] : Array Value))).update a (Obj.mapSeq fun _ => (arrOf st').map (·.2))).get? a = some (seqObj "list" ((arrOf st').map (·.2)) c2) := ⟨_, get?_update_seq na1 fun _ => (arrOf st').map (·.2)⟩
      refine wpAny_pure (h _ _ g1 g2 (I1.take (t' := s.toks) (it := a) (o := .lst _) (fun b ob hb e => (s2.2 b hb).trans e) fa ⟨by rw [List.length_map, hlo]; exact hz, (arrOf st').toList.map (fun p : Keyed => p.2), c2, vb, ?_⟩))
      rw [← eo]
      exact hc2
    · show ((arrOf st').map (·.2)).size ≤ _
      rw [Array.size_map, ← Array.length_toList, hlo]
      omega
  unfold PyProof.Rows.ksk_end
  try dsimp only
  simp only [Bool.false_eq_true, if_false]
  have lz : (keys.zip its).length = xs.length := by rw [List.length_zip]; omega
  by_cases h2 : its.toArray.size < 2
  · rw [if_pos h2, if_pos h2]
    refine wpAny_bind (wpAny_pure ?_)
    rw [StateT.run_pure]
    refine wpAny_bind (wpAny_pure ?_)
    try dsimp only
    rw [List.size_toArray] at h2
    refine fin (SortSt.mk' general' (keys.toArray.zip its.toArray) #[] 7 none) rfl ?_ (Stb.of_eq ez)
    show Srtd _ (keys.toArray.zip its.toArray).toList
    rw [ez]
    exact srtd_less2 (by omega)
  · rw [if_neg h2, if_neg h2]
    rw [List.size_toArray] at h2
    refine wpAny_bind (leads_kind (by omega) (fun v hv => ?_) ?_)
    · obtain ⟨i, hi, rfl⟩ := List.mem_iff_getElem.mp hv
      obtain ⟨x, ex, hx⟩ := paired_at kb (List.getElem?_eq_getElem hi)
      exact ⟨_, hx.lead, by rw [hd x (List.mem_of_getElem? ex)]; exact hd1⟩
    have hall : AllL (fun p : Keyed => p ∈ keys.zip its) (keys.toArray.zip its.toArray).toList := fun p hm => by
      rw [ez] at hm
      exact hm
    have hcmp : Cmp X.prog X.w A s (tuples' true) (fun p => p ∈ keys.zip its) (fun p q : Keyed => HT.lexLt (k (backV p.2)) (k (backV q.2))) := fun p q hp hq =>
      ints_lt (hmem p hp).1 (hmem q hq).1 (by rw [hd _ (hmem p hp).2, hd _ (hmem q hq).2])
    refine wpAny_bind (wpAny_mono (wpS_sortO (st0 := SortSt.mk' (tuples' true) (keys.toArray.zip its.toArray) #[] 7 none)
      (Q := fun _ st' => Srtd (fun p q : Keyed => HT.lexLt (k (backV p.2)) (k (backV q.2))) (arrOf st').toList ∧ Stb (fun p q : Keyed => HT.lexLt (k (backV p.2)) (k (backV q.2))) (arrOf st').toList (keys.toArray.zip its.toArray).toList ∧ failedOf st' = none)
      (lex_swo fun p : Keyed => k (backV p.2)) hcmp rfl hall rfl rfl fun st' a1 a2 a3 => ⟨a1, a2, a3⟩) ?_ fun _ _ e => e)
    rintro ⟨⟨⟩, st'⟩ s' ⟨rfl, hp1, hp2, hf⟩
    rw [ez] at hp2
    exact fin st' hf hp1 hp2
end
end FR

/-! sorted(xs, key=f), the rule. -/
namespace FR
open PySem PySem.Spec PyProof.Rows L2 SrtO
section
variable {X : Cx} {CX : CXT} {n : Nat} {f : Addr} {sp : Sp} {E0 : XK} {pins : List (Addr × Obj)} {σ : L2.St} {H : Hp}
theorem key_rest {a kS : Addr} {its : List Value} {xs : List V} {e1 d : Nat} {k : V → List Int} {s : Shared} {R : PySem.Fin → Shared → Prop} {E' : Value → Shared → Prop} (F : FnR X.prog X.w X.K X.mg X.base CX n f sp) (hr : Room n X.A.in1.in1) (hx : ∀ outer H s e s', ¬ CX outer H s E0 e s')
    (I : Inv X pins σ H s) (fa : FpOk X pins H a) (fk : FpOk X pins H kS) (hka : kS ≠ a)
    (nk : s.heap.get? kS = some (seqObj "list" #[] 0)) (na : s.heap.get? a = some (seqObj "list" #[] e1)) (rv : Vals xs its) (href : ∀ x ∈ xs, ∃ t, x = V.ref t) (hd : ∀ x ∈ xs, (k x).length = d) (hd1 : 1 ≤ d) (hz : xs.length ≤ sizeLine)
    (hsp : ∀ x ∈ xs, ∀ H', Same H H' → sp [x] H' (fun z H2 => Same H' H2 ∧ ∃ p, z = .ref p ∧ H2 p = some (.tup ((k x).map V.int))) E0)
    (h : ∀ ys H' s', Srtd (fun x y => HT.lexLt (k x) (k y)) ys → Stb (fun x y => HT.lexLt (k x) (k y)) ys xs → Same H H' → H' a = none → Inv X pins σ (upd H' a (.lst ys)) s' → R (.done (.ret .none)) s') :
    wpAny (model X.prog X.w) X.A.in1.in1 (PyProof.Rows.ksk_rest a (.ref f) false its.toArray e1 (.ref kS)) R E' s := by
  have hl : its.length = xs.length := rv.length.symm
  unfold PyProof.Rows.ksk_rest
  refine wpAny_bind (wpAny_rule ?_)
  first
    | rw [List.forIn_toArray]
    | (rw [← Array.forIn_toList]; simp only [List.toList_toArray])
    | rw [← Array.forIn_toList]
  refine wpAny_bind (PyProof.Rows.ksk_fold (fun i s' => ∃ H' ks e, Inv X pins σ H' s' ∧ Same H H' ∧ FpOk X pins H' a ∧ FpOk X pins H' kS ∧ s'.heap.get? kS = some (seqObj "list" (List.toArray ks) e) ∧ s'.heap.get? a = some (seqObj "list" #[] e1) ∧ KeysIn k H' ks (xs.take i)) its 0 s
    ⟨H, [], 0, I, Same.refl H, fa, fk, nk, na, by rw [List.take_zero]; exact .nil⟩ ?step ?done)
  case step =>
    rintro j u s' hu ⟨H', ks, e, I', sm, fa', fk', nk', na', kp⟩
    simp only [Nat.zero_add] at kp ⊢
    obtain ⟨x, hxj, rx⟩ := paired_at2 rv hu
    have hm : x ∈ xs := List.mem_of_getElem? hxj
    have hj : j < xs.length := (List.getElem?_eq_some_iff.mp hxj).1
    refine wpAny_bind (wpAny_attempt (wpAny_mono (key_call F hr hx I' rx (hsp x hm H' sm)) (fun v s2 hv => ?_) fun _ _ hF => hF.elim))
    obtain ⟨z, H2, un, I2, rz, sm2, p, rfl, hp⟩ := hv
    obtain rfl : v = Value.ref p := rz
    try dsimp only
    obtain ⟨nk2, fk2⟩ := un_kept I' un fk' nk'
    obtain ⟨na2, fa2⟩ := un_kept I' un fa' na'
    have hks : ks.length ≤ xs.length := by
      have q := Paired.length kp
      rw [List.length_take] at q
      omega
    have s1 := Heap.SameBut.update s2.heap kS (Obj.mapSeq (·.push (Value.ref p)))
    obtain ⟨c2, hc2⟩ : ∃ c2, (s2.heap.update kS (Obj.mapSeq (·.push (Value.ref p)))).get? kS = some (seqObj "list" (ks.toArray.push (Value.ref p)) c2) := ⟨_, get?_update_seq nk2 (·.push (Value.ref p))⟩
    have ek : xs.take (j + 1) = xs.take j ++ [x] := by rw [List.take_add_one, hxj]; simp
    have ea : ks.toArray.push (Value.ref p) = (ks ++ [Value.ref p]).toArray := by simp
    refine wpAny_bind (listUpdate_at nk2 rfl ?_ (by rw [List.size_toArray]; omega) (by rw [Array.size_push, List.size_toArray]; omega))
    refine wpAny_pure ⟨rfl, H2, ks ++ [Value.ref p], c2, I2.turnedL (t' := s2.toks) (ch := [kS]) (fun b o hb e => (s1.2 b (fun z => hb (by rw [z]; exact List.mem_singleton.mpr rfl))).trans e) (fun b hb => by
      rw [List.mem_singleton.mp hb]
      exact fk2), sm.trans sm2, fa2, fk2, by rw [← ea]; exact hc2, (s1.2 a hka.symm).trans na2, ?_⟩
    rw [ek]
    exact paired_snoc (kp.keeps sm2) ⟨p, rfl, hp⟩
  case done =>
    rintro s' ⟨H', ks, e, I', sm, fa', fk', nk', na', kp⟩
    rw [List.take_of_length_le (by omega)] at kp
    try dsimp only
    refine wpAny_bind (listItems_at nk' rfl ?_)
    exact key_end (d := d) I' fa' fk' hka nk' na' kp rv href hd hd1 hz fun ys s2 g1 g2 I2 => h ys H' s2 g1 g2 sm fa'.1 I2
theorem cr_sortedKey (F : FnR X.prog X.w X.K X.mg X.base CX n f sp) (hr : Room (n + 2) X.A) (hx : ∀ outer H s e s', ¬ CX outer H s E0 e s') : CallRK X (.builtin "sorted") [Str.ofString "key"] (rSortKey X.K sp E0 f) := by
  intro pins s σ H vs zs us ws Q I r rz h
  obtain ⟨a, xs, k, d, rfl, rfl, hs, hd1, href, hkl, hsp, q⟩ := h
  obtain rfl := Vals.ref1 r
  obtain ⟨w1, rfl, e1⟩ := vals1 rz
  obtain rfl : w1 = Value.ref f := e1
  obtain ⟨its, rv, hl, hz⟩ := I.list hs
  have hlen := rv.length
  have hr2 : Room n X.A.in1.in1 := (show Room (n + 1) X.A.in1 from Room.in1 hr).in1
  refine PySem.W.sorted_of_sort hl.isList (by rw [← hlen]; exact hz) (PyProof.Rows.ksk_s1 _ _) (fun _ => PyProof.Rows.ksk_l1 _ _) fun E' => ?_
  show wpAny _ _ (Builtin.«list.sort» ⟨[.ref (s.heap.objs.size + 1)], [(Str.ofString "key", .ref f)]⟩) _ _ _
  rw [PyProof.Rows.ksk_t1]
  have fa : FpOk X pins H (s.heap.objs.size + 1) := I.fpOk (Nat.le_succ _) (I.hok.fresh (Nat.le_succ _))
  have I0 : Inv X pins σ H { s with heap := PySem.W.copyHeap s.heap its } := I.kept (t' := s.toks) fun b u e => PySem.W.copyHeap_old e
  have ho := PySem.W.copyHeap_at s.heap its
  generalize PySem.W.copyHeap s.heap its = h0 at I0 ho
  generalize s.heap.objs.size + 1 = a0 at fa ho ⊢
  have ha : a0 < h0.objs.size := Heap.lt_size ho
  obtain ⟨e1, ho1⟩ : ∃ e1, (h0.update a0 (Obj.mapSeq fun _ => (#[] : Array Value))).get? a0 = some (seqObj "list" #[] e1) := ⟨_, get?_update_seq ho fun _ => #[]⟩
  have hkS : ((h0.update a0 (Obj.mapSeq fun _ => (#[] : Array Value))).push (seqObj "tuple" its.toArray 0)).objs.size = h0.objs.size + 1 := by rw [PyProof.Rows.size_push', Heap.size_update]
  unfold PyProof.Rows.ksk_tree
  refine wpAny_bind (listItems_at (s := { s with heap := h0 }) ho rfl ?_)
  refine wpAny_bind (listUpdate_at (s := { s with heap := h0 }) ho rfl ?_ (by rw [List.size_toArray, ← hlen]; exact hz) (Nat.zero_le _))
  refine wpAny_bind (seqEpoch_at ho1 rfl ?_)
  refine wpAny_bind (wpAny_newTuple ?_ (by show its.length ≤ _; rw [← hlen]; exact hz))
  refine wpAny_bind (wpAny_newList ?_ (Nat.zero_le _))
  refine wpAny_holding ?_
  have fk : FpOk X pins H ((h0.update a0 (Obj.mapSeq fun _ => (#[] : Array Value))).push (seqObj "tuple" its.toArray 0)).objs.size := by
    rw [hkS]
    exact I0.fpOk (Nat.le_succ _) (I0.hok.fresh (Nat.le_succ _))
  have I1 : Inv X pins σ H { s with heap := ((h0.update a0 (Obj.mapSeq fun _ => (#[] : Array Value))).push (seqObj "tuple" its.toArray 0)).push (seqObj "list" #[] 0) } := Inv.turnedL (s := { s with heap := h0 }) (t' := s.toks) (ch := [a0]) I0 (fun b o hb e => by
    refine Heap.get?_push_of_some _ (Heap.get?_push_of_some _ ?_)
    rw [Heap.get?_update_ne _ _ _ _ (fun z => hb (by rw [z]; exact List.mem_singleton.mpr rfl))]
    exact e) (fun b hb => by
    rw [List.mem_singleton.mp hb]
    exact fa)
  exact key_rest (d := d) F hr2 hx I1 fa fk (by rw [hkS]; exact Nat.ne_of_gt (Nat.lt_succ_of_lt ha)) (Heap.get?_push_size _ rfl) (Heap.get?_push_of_some _ (Heap.get?_push_of_some _ ho1)) rv href hkl hd1 hz hsp fun ys H' s' g1 g2 sm hn I' => ⟨rfl, .ref a0, _, I', rfl, q ys a0 H' g1 g2 sm hn fa.1⟩
end
end FR

/-! sorted(xs), xs tuples that begin with ints that tell them apart. -/
namespace FR
open PySem PySem.Spec PyProof.Rows L2 SrtO
section
variable {prog : Program} {w : World} {A : Around} {E : Value → Shared → Prop} {s : Shared}
theorem leads_sortableO {a : Addr} {vs : List Value} {k : Value → List Int} {d : Nat} (h0 : 0 < vs.length) (h1 : 1 ≤ d) (hp : ∀ v ∈ vs, Lead s.heap v (k v)) (hd : ∀ v ∈ vs, (k v).length = d) (hu : ∀ v ∈ vs, ∀ u ∈ vs, k v = k u → v = u) (ha : ∀ o, s.heap.get? a = some o → o.cls ≠ .type "tuple") :
    SortableO prog w A s a vs fun v u => HT.lexLt (k v) (k u) := by
  intro h' keep
  have hp' : ∀ v ∈ vs, Lead h' v (k v) := fun v hm => (hp v hm).keeps fun b o e c => keep b o (fun z => by subst z; exact ha o e c) e
  exact ⟨tuples' true, fun Q E hq => leads_kind (s := { s with heap := h' }) h0 (fun v hv => ⟨k v, hp' v hv, by rw [hd v hv]; exact h1⟩) hq, lead_cmp (s := { s with heap := h' }) hp' hd hu⟩
end
def rSortedL (K : PySem.W.Frag) : List V → Hp → VK → Prop := fun vs H Q => ∃ (a : Addr) (xs : List V) (k : V → List Int) (d : Nat), vs = [V.ref a] ∧ SqL K H a xs ∧ 1 ≤ d ∧ (∀ x ∈ xs, ∃ t rs, x = V.ref t ∧ H t = some (.tup ((k x).map V.int ++ rs))) ∧ (∀ x ∈ xs, (k x).length = d) ∧
  (∀ x ∈ xs, ∀ y ∈ xs, k x = k y → x = y) ∧ ∀ ys p, Srtd (fun x y => HT.lexLt (k x) (k y)) ys → Stb (fun x y => HT.lexLt (k x) (k y)) ys xs → H p = none → Q (.ref p) (upd H p (.lst ys))
theorem ints_split : ∀ {ns : List Int} {rs : List V} {us : List Value}, Vals (ns.map V.int ++ rs) us → ∃ us1 us2, us = us1 ++ us2 ∧ IntsAre us1 ns
  | [], _, us, _ => ⟨[], us, rfl, .nil⟩
  | n :: ns, rs, _, .cons ⟨t, e⟩ r => by
    obtain ⟨u1, u2, e2, h⟩ := ints_split (ns := ns) r
    exact ⟨.int n t :: u1, u2, by rw [e, e2]; rfl, .cons n t h⟩
section
variable {X : Cx}
theorem cr_sortedL : CallR X (.builtin "sorted") (rSortedL X.K) := by
  intro pins s σ H vs us Q I r h
  obtain ⟨a, xs, k, d, rfl, hs, h1, hx, hd, hu, q⟩ := h
  obtain ⟨its, rv, hl, hz⟩ := I.list hs
  obtain rfl := Vals.ref1 r
  obtain ⟨e1, e2⟩ := refs_back rv fun x m => by
    obtain ⟨t, _, e, _⟩ := hx x m
    exact ⟨t, e⟩
  have hin : ∀ v ∈ its, backV v ∈ xs := fun v hv => by rw [e1]; exact List.mem_map.mpr ⟨_, hv, rfl⟩
  have hp : ∀ v ∈ its, Lead s.heap v (k (backV v)) := fun v hv => by
    obtain ⟨t, rfl⟩ := e2 v hv
    obtain ⟨t', rs, e, ht⟩ := hx _ (hin _ hv)
    cases e
    obtain ⟨_, its2, r2, o, ho, hc, n, hdt⟩ := I.hok _ _ ht
    obtain ⟨u1, u2, rfl, hi⟩ := ints_split r2
    exact ⟨t, o, u1, u2, n, rfl, ho, hc, hdt, hi⟩
  refine sorted_ord (lex_swo fun v => k (backV v)) hl.isList (by rw [← rv.length]; exact hz) (fun h2 h₁ a ha kk => ?_) fun out hs2 hb => ?_
  · refine leads_sortableO (s := { s with heap := h₁ }) (d := d) (k := fun v => k (backV v)) (by omega) h1 (fun v hm => (hp v hm).keeps fun b o e _ => (kk b o e).2) (fun v hm => hd _ (hin v hm)) (fun v hv u hw e => ?_) fun o e => ?_
    · obtain ⟨t, rfl⟩ := e2 v hv
      obtain ⟨t', rfl⟩ := e2 u hw
      have q2 := hu _ (hin _ hv) _ (hin _ hw) e
      cases q2
      rfl
    · have e' : some o = some (seqObj "list" its.toArray 0) := e.symm.trans ha
      cases e'
      intro c
      exact absurd (Value.type.inj c) (by decide)
  · have h3 : ∀ u ∈ out, ∃ a, u = Value.ref a := fun u hu => e2 u (hb.perm.mem_iff.mp hu)
    obtain ⟨n, hn⟩ := sortedAll_at s.heap its out.toArray
    have hb2 : Stb (fun x y => HT.lexLt (k x) (k y)) (out.map backV) xs := by
      rw [e1]
      exact Stb.map (lt := fun x y => HT.lexLt (k x) (k y)) (lex_swo k) backV hb
    refine ⟨.ref (s.heap.objs.size + 1), upd H (s.heap.objs.size + 1) (.lst (out.map backV)), I.laid (t' := s.toks) (fun b o e => sortedAll_old e) (Nat.le_succ _) ⟨?_, out, n, vals_back h3, hn⟩, rfl, q _ _ (srtd_map hs2) hb2 (I.hok.fresh (Nat.le_succ _))⟩
    rw [hb2.len]
    exact hz
end
end FR

/-! Deeds by their places, lists of them, their order. -/
namespace FR
open PySem PySem.Spec PyProof.Rows L2 SrtO
def Act.mark (a : Act) : Int × Int := (a.who, a.num)
def Act.place (a : Act) : List Int := [a.note.sum, a.who, a.num]
theorem What.vs_inj : ∀ {a b : What}, a.vs = b.vs → a = b := by
  intro a b h
  cases a <;> cases b <;> simp [What.vs] at h ⊢ <;> first | exact h | exact absurd h.1 (by decide +kernel)
theorem ints_inj : ∀ {a b : List Int}, a.map V.int = b.map V.int → a = b
  | [], [], _ => rfl
  | [], _ :: _, h => nomatch h
  | _ :: _, [], h => nomatch h
  | x :: a, y :: b, h => by
    rw [List.map_cons, List.map_cons] at h
    injection h with h1 h2
    injection h1 with h1
    rw [h1, ints_inj h2]
theorem ActAt.inj {H : Hp} {p : Addr} {a b : Act} (h : ActAt H p a) (k : ActAt H p b) : a = b := by
  obtain ⟨n, q, h1, h2, h3⟩ := h
  obtain ⟨n', q', k1, k2, k3⟩ := k
  rw [h1] at k1
  injection k1 with k1
  injection k1 with k1
  injection k1 with e1 k1
  injection k1 with e2 k1
  injection k1 with e3 k1
  injection k1 with e4 k1
  injection e1 with e1
  injection e2 with e2
  injection e3 with e3
  injection e4 with e4
  subst e3 e4
  rw [h2] at k2
  injection k2 with k2
  injection k2 with k2
  rw [h3] at k3
  injection k3 with k3
  injection k3 with k3
  obtain ⟨w, nn, nt, wt⟩ := a
  obtain ⟨w', nn', nt', wt'⟩ := b
  simp only at e1 e2 k2 k3
  rw [e1, e2, ints_inj k2, What.vs_inj k3]
instance : Nonempty Act := ⟨⟨0, 0, [], .use "" ""⟩⟩
noncomputable def actOf (H : Hp) (p : Addr) : Act := Classical.epsilon fun a => ActAt H p a
theorem actOf_eq {H : Hp} {p : Addr} {a : Act} (h : ActAt H p a) : actOf H p = a := ActAt.inj (Classical.epsilon_spec (p := fun a => ActAt H p a) ⟨a, h⟩) h
/-- at each of the places stands its deed -/
def Acts (A : Addr → Act) (H : Hp) (ps : List Addr) : Prop := ∀ p ∈ ps, ActAt H p (A p) ∧ (A p).what.Fit
section
variable {A : Addr → Act} {H H' : Hp} {ps qs : List Addr} {S : List Addr}
theorem Acts.keep (h : Acts A H ps) (k : Kp S H H') : Acts A H' ps := fun p m => ⟨(h p m).1.keep k, (h p m).2⟩
theorem Acts.sub (h : Acts A H ps) (k : ∀ q ∈ qs, q ∈ ps) : Acts A H qs := fun q m => h q (k q m)
theorem Acts.perm (h : Acts A H ps) (k : qs.Perm ps) : Acts A H qs := h.sub fun q m => k.mem_iff.mp m
theorem acts_of {as : List Act} (h : ActsAt H ps as) (hf : ∀ a ∈ as, a.what.Fit) : Acts (actOf H) H ps ∧ as = ps.map (actOf H) := by
  induction h with
  | nil => exact ⟨fun p m => by simp at m, rfl⟩
  | cons r t ih =>
    obtain ⟨i1, i2⟩ := ih fun a m => hf a (List.mem_cons_of_mem _ m)
    have e := actOf_eq r
    refine ⟨fun p m => ?_, ?_⟩
    · rcases List.mem_cons.mp m with rfl | m
      · rw [e]
        exact ⟨r, hf _ (List.mem_cons_self ..)⟩
      · exact i1 p m
    · rw [List.map_cons, e, ← i2]
theorem Acts.dp {K : PySem.W.Frag} : ∀ {ps : List Addr}, Acts A H ps → DpAll K H (ps.map V.ref) (ps.map fun p => (A p).data)
  | [], _ => .nil
  | p :: ps, h => .cons (h p (List.mem_cons_self ..)).1.dp (Acts.dp fun q m => h q (List.mem_cons_of_mem _ m))
def decks (A : Addr → Act) (ps : List Addr) : PyData := .list (ps.map fun p => (A p).data)
theorem decks_lay : ∀ {ps : List Addr}, (∀ p ∈ ps, (A p).what.Fit) → PyData.canLayAll0 (ps.map fun p => (A p).data) = true ∧ PyData.depthAll (ps.map fun p => (A p).data) ≤ 3
  | [], _ => ⟨rfl, by simp [PyData.depthAll]⟩
  | p :: ps, h => by
    obtain ⟨i1, i2⟩ := decks_lay (ps := ps) fun q m => h q (List.mem_cons_of_mem _ m)
    have q := Act.shaped (h p (List.mem_cons_self ..))
    have h2 := PySem.W.depthAll_ints (A p).note
    have h4 := (A p).what.deep
    unfold SeqAt.shaped at q
    rw [Bool.and_eq_true] at q
    refine ⟨?_, ?_⟩
    · rw [List.map_cons]
      simp only [PyData.canLayAll0, q.1, i1, Bool.and_self]
    · rw [List.map_cons, PyData.depthAll]
      have e : (A p).data.depth ≤ 3 := by
        unfold Act.data
        simp only [PyData.depth, PyData.depthAll]
        omega
      omega
theorem decks_shaped (h : ∀ p ∈ ps, (A p).what.Fit) : SeqAt.shaped (decks A ps) = true := by
  obtain ⟨h1, h2⟩ := decks_lay h
  unfold SeqAt.shaped decks
  rw [Bool.and_eq_true]
  refine ⟨?_, decide_eq_true ?_⟩
  · simp only [PyData.canLay0, h1]
  · simp only [PyData.depth]
    omega
theorem Acts.fit (h : Acts A H ps) : ∀ p ∈ ps, (A p).what.Fit := fun p m => (h p m).2
theorem decks_eqv (h : ∀ p ∈ ps, (A p).what.Fit) : PyData.eqv (decks A ps) (decks A ps) = true := SeqAt.eqv_refl _ (SeqAt.canLay_of_shaped (decks_shaped h))
theorem Acts.deck {K : PySem.W.Frag} {a : Addr} (h : Acts A H ps) (ha : H a = some (.lst (ps.map V.ref))) : Dp K H (.ref a) (decks A ps) := .lst (sqL ha) h.dp
theorem decks_nil : ∀ {ps : List Addr}, PyData.eqv (decks A ps) (.list []) = ps.isEmpty
  | [] => rfl
  | _ :: _ => rfl
end
def refA : V → Addr
  | .ref a => a
  | _ => 0
theorem refA_map : ∀ ps : List Addr, (ps.map V.ref).map refA = ps
  | [] => rfl
  | p :: ps => by rw [List.map_cons, List.map_cons, refA_map ps]; rfl
theorem perm_refs {ys : List V} {ps : List Addr} (h : ys.Perm (ps.map V.ref)) : ∃ qs : List Addr, ys = qs.map V.ref ∧ qs.Perm ps := by
  refine ⟨ys.map refA, ?_, by have q := h.map refA; rw [refA_map] at q; exact q⟩
  rw [List.map_map]
  have e : ∀ y ∈ ys, (V.ref ∘ refA) y = y := fun y m => by
    obtain ⟨p, _, rfl⟩ := List.mem_map.mp (h.mem_iff.mp m)
    rfl
  have e2 : ys.map (V.ref ∘ refA) = ys.map id := List.map_congr_left e
  rw [e2, List.map_id]
theorem perm_const {α : Type} {l m : List α} (h : l.Perm m) (e : ∀ x ∈ l, ∀ y ∈ l, x = y) : l = m := by
  cases l with
  | nil => exact (h.symm.eq_nil).symm
  | cons x t =>
    have h1 : x :: t = List.replicate (x :: t).length x := List.eq_replicate_iff.mpr ⟨rfl, fun y m => e y m x (List.mem_cons_self ..)⟩
    have h2 : m = List.replicate m.length x := List.eq_replicate_iff.mpr ⟨rfl, fun y my => e y (h.mem_iff.mpr my) x (List.mem_cons_self ..)⟩
    rw [h1, h2, h.length_eq]
/-- two rearrangements in order are one, where the keys tell all apart -/
theorem srt_uniq {α : Type} {k : α → List Int} {l m : List α} (h : l.Perm m) (hl : Srtd (fun x y => HT.lexLt (k x) (k y)) l) (hm : Srtd (fun x y => HT.lexLt (k x) (k y)) m) (inj : ∀ x ∈ l, ∀ y ∈ l, k x = k y → x = y) : l = m := by
  refine stb_uniq (lt := fun x y => HT.lexLt (k x) (k y)) (lex_swo k) hl hm ⟨h, fun x => perm_const (h.filter _) fun y my z mz => ?_⟩
  obtain ⟨y1, y2⟩ := List.mem_filter.mp my
  obtain ⟨z1, z2⟩ := List.mem_filter.mp mz
  have ey := eqv_iff.mp y2
  have ez := eqv_iff.mp z2
  exact inj y y1 z z1 ((lex_tot _ _ ey.2 ey.1).trans (lex_tot _ _ ez.1 ez.2))
def spPlace : Sp := fun vs H Q _ => ∃ (p : Addr) (a : Act), vs = [.ref p] ∧ ActAt H p a ∧ ∀ (q : Addr) (H' : Hp), Same H H' → H q = none → H' q = some (.tup (a.place.map V.int)) → Q (.ref q) H'
abbrev Placed (A : Addr → Act) (qs : List Addr) : Prop := Srtd (fun (x y : Addr) => HT.lexLt (A x).place (A y).place) qs
def spIn (K : PySem.W.Frag) : Sp := fun vs H Q _ => ∃ (l : Addr) (ps : List Addr) (A : Addr → Act), vs = [.ref l] ∧ SqL K H l (ps.map V.ref) ∧ Acts A H ps ∧ ∀ (q : Addr) (qs : List Addr) (H' : Hp), Same H H' → H q = none → H' q = some (.lst (qs.map V.ref)) → qs.Perm ps → Placed A qs → Q (.ref q) H'
end FR

namespace FR
open PySem
/-- the built-in names that nobody has bound -/
structure Blt (mg : Str → Option Value) : Prop where
  len : mg "len" = none
  range : mg "range" = none
  isi : mg "isinstance" = none
  bool : mg "bool" = none
  int : mg "int" = none
  str : mg "str" = none
  list : mg "list" = none
  tuple : mg "tuple" = none
  sum : mg "sum" = none
  sorted : mg "sorted" = none
  set : mg "set" = none
  max : mg "max" = none
  zip : mg "zip" = none
end FR

namespace FR
open PySem PySem.Spec PyProof.Rows L2
def top (i : Nat) : Stmt := PySem.Challenge.pw_firmroll_k05_whole_cut_anywhere.main.body.getD i (.Pass ⟨0, 0, 0, 0⟩)
abbrev sTray : Stmt := top 14
abbrev sDraw : Stmt := top 15
theorem m61 : (0 : Int) < 2 ^ Int.toNat 61 - 1 := by decide
theorem mod61 (z : Int) : 0 ≤ z % (2 ^ Int.toNat 61 - 1) ∧ z % (2 ^ Int.toNat 61 - 1) < 2 ^ 61 :=
  ⟨Int.emod_nonneg _ (by decide), Int.lt_of_lt_of_le (Int.emod_lt_of_pos _ m61) (by decide)⟩
section
variable {P : Program} {w : World} {K : PySem.W.Frag} {mg : Str → Option Value} {base : Heap}
theorem scTray : FnScope ["script", "fold", "great", "cell", "much"] ["script"] (defScope sTray) := ⟨rfl, rfl, rfl, by decide +kernel, rfl, by decide +kernel, by decide +kernel⟩
theorem ok_tray {f : Addr} {fd : FuncData} {k : Nat} (F : Fun K "_law_tray" "_law_tray" sTray f fd) (mx : mg "max" = none) : FnOk P w K mg base CX0 (k + 1) f fd ["script"] (spTray K) := by
  refine F.ok scTray (fun vs H Q E h => ?_) (fun cdv A outer s H vs Q E hr h => ?_)
  · obtain ⟨a, ns, rfl, _⟩ := h
    rfl
  obtain ⟨a, ns, rfl, hS, hl, q⟩ := h
  refine ⟨_, pss_cons (ps_set (i := 1) scTray.nd rfl (.inl rfl) pe_int) (pss_cons (ps_set (i := 2) scTray.nd rfl (.inl rfl) (pe_lst pa_nil))
    (pss_cons (ps_for PassesOwn.never rfl (pi_list (pv 0)) (pg_name (i := 3) scTray.nd rfl (.inl rfl))
      (pss_cons (ps_set (i := 1) scTray.nd rfl (.inl rfl) (pe_op op_mod (pe_op op_add (pe_op op_mul (pv 1) pe_int) (pv 3)) (pe_op op_sub (pe_op op_pow pe_int pe_int) pe_int)))
      (pss_cons (ps_set (i := 4) scTray.nd rfl (.inl rfl) (pe_callB (call_max2 rfl) (by rfl) mx (by decide +kernel) (pa_cons (pv 3) (pa_cons (pe_op op_sub pe_int (pv 3)) pa_nil))))
      (pss_one (ps_if (pt_cmpR op_ge (pv 4) (pe_op op_pow pe_int pe_int) (nomark _))
        (pss_one (ps_expr (pe_bm PySem.F.plainAttrs_list PySem.F.slot_list_append PySem.F.type_list_append mt_append (pv 2) (pa_cons (pe_op op_sub (pv 4) (pe_op op_pow pe_int pe_int)) pa_nil)))) pss_nil)))))
    (pss_one (ps_ret (pe_lst (pa_cons (pv 2) (pa_cons pe_int (pa_cons (pv 1) (pa_cons pe_int pa_nil))))))))), ?_⟩
  refine ⟨Nat.zero_le _, fun g ng => ?_⟩
  refine ⟨_, rfl, a, rfl, ⟨_, (same_new ng).seq hS⟩, for_list (K := K) (a := a) (xs := ns.map V.int) (fun i σ H' => ∃ (fo : Int) (gs : List Int) (v3 v4 : Option V), σ = [some (.ref a), some (.int fo), some (.ref g), v3, v4] ∧ Same H H' ∧ H' g = some (.lst (gs.map V.int)) ∧ gs.length ≤ i ∧ 0 ≤ fo ∧ fo < 2 ^ 61)
      ⟨_, [], none, none, rfl, same_new ng, upd_same, Nat.le_refl _, by decide, by decide⟩ (fun i σ H' _ ⟨_, _, _, _, _, s, _⟩ => s.seq hS) ?_ ?_⟩
  · rintro i y σ H' hi ⟨fo, gs, v3, v4, rfl, s1, hg, hgl, hf0, hf1⟩
    have hi63 : i < ns.length := by
      have q := (List.getElem?_eq_some_iff.mp hi).1
      rw [List.length_map] at q
      exact q
    obtain ⟨z, hz, rfl⟩ := map_int_at hi
    refine ⟨_, rfl, _, _, rfl, rfl, .inr ⟨by decide, by decide⟩, _, rfl, _, _, rfl, rfl, _, _, rfl, rfl, ⟨by decide, by decide, by decide⟩, _, _, rfl, rfl, _, _, rfl, rfl, m61, ?_⟩
    refine ⟨_, rfl, _, rfl, _, _, rfl, rfl, _, _, rfl, ?_⟩
    refine ⟨_, rfl, _, _, rfl, rfl, ⟨by decide, by decide, by decide⟩, _, _, rfl, rfl, _, rfl, ite2 (fun c => ?_) (fun c => ?_)⟩
    · refine ⟨_, rfl, .inl ⟨rfl, _, SqL.of hg⟩, _, rfl, _, _, rfl, rfl, ⟨by decide, by decide, by decide⟩, _, _, rfl, rfl, _, _, _, rfl, rfl, hg, ?_, ?_⟩
      · rw [List.length_map]
        exact small1000 (by omega)
      · refine ⟨_, gs ++ [(if 0 - z > z then 0 - z else z) - 10 ^ Int.toNat 18], _, _, rfl, fun b o e => ?_, ?_, ?_, (mod61 _).1, (mod61 _).2⟩
        · rw [upd_ne (ne_of_none e ng)]
          exact s1 _ _ e
        · rw [upd_same, List.map_append]
          rfl
        · rw [List.length_append, List.length_singleton]
          omega
    · exact ⟨_, gs, _, _, rfl, s1, hg, by omega, (mod61 _).1, (mod61 _).2⟩
  · rintro σ H' ⟨fo, gs, v3, v4, rfl, s1, hg, hgl, hf0, hf1⟩
    refine ⟨_, rfl, _, rfl, (by show 4 ≤ sizeLine; decide), fun t nt => ?_⟩
    refine q t g _ (s1.trans (same_new nt)) (s1.free nt) ng ⟨gs, 0, fo, 0, upd_same, ?_, hf0, hf1, by decide, by decide⟩
    exact upd_at hg nt

theorem scDraw : FnScope ["tray", "many", "found", "mixed"] ["tray", "many"] (defScope sDraw) := ⟨rfl, rfl, rfl, by decide +kernel, rfl, by decide +kernel, by decide +kernel⟩
theorem ok_draw {f : Addr} {fd : FuncData} {k : Nat} (F : Fun K "_law_draw" "_law_draw" sDraw f fd) : FnOk P w K mg base CX0 (k + 1) f fd ["tray", "many"] spDraw := by
  refine F.ok scDraw (fun vs H Q E h => ?_) (fun cdv A outer s H vs Q E hr h => ?_)
  · obtain ⟨t, g, N, many, rfl, _⟩ := h
    rfl
  obtain ⟨t, g, N, many, rfl, T, hN, hm0, hm1, q⟩ := h
  refine ⟨_, C8.pss_cut (ps_while PassesOwn.never (PW.pt (pw_and (pt_cmpR op_lt (pe_ix ix_list (pv 0) pe_int (fun _ _ => rfl)) pe_int (nomark _)) (pw_and1 (pt_cmpR (op_neD hr.units) (pe_ix ix_list (pv 0) pe_int (fun _ _ => rfl)) (pe_lst pa_nil) (nomark _)))))
      (pss_one (ps_asg (pe_bm PySem.F.plainAttrs_list PySem.F.slot_list_pop PySem.F.type_list_pop mt_popAt (pe_ix ix_list (pv 0) pe_int (fun _ _ => rfl)) (pa_cons pe_int pa_nil)) (pg_sub (pv 0) pe_int set_list))))
    (pss_cons (ps_if (pt_cmpR op_ge (pe_ix ix_list (pv 0) pe_int (fun _ _ => rfl)) pe_int (nomark _))
      (pss_cons (ps_set (i := 2) scDraw.nd rfl (.inl rfl) (pe_op op_mod (pe_ix ix_list (pv 0) pe_int (fun _ _ => rfl)) (pv 1)))
      (pss_cons (ps_asg (pe_op op_fdiv (pe_ix ix_list (pv 0) pe_int (fun _ _ => rfl)) (pv 1)) (pg_sub (pv 0) pe_int set_list))
      (pss_one (ps_ret (pv 2))))) pss_nil)
    (pss_cons (ps_asg (pe_op op_add (pe_ix ix_list (pv 0) pe_int (fun _ _ => rfl)) pe_int) (pg_sub (pv 0) pe_int set_list))
    (pss_cons (ps_set (i := 3) scDraw.nd rfl (.inl rfl) (pe_op op_mod
        (pe_op op_add (pe_op op_mul (pe_op op_add (pe_ix ix_list (pv 0) pe_int (fun _ _ => rfl)) pe_int) (pe_op op_pow (pe_op op_add (pe_ix ix_list (pv 0) pe_int (fun _ _ => rfl)) pe_int) pe_int)) (pe_op op_mul pe_int (pe_ix ix_list (pv 0) pe_int (fun _ _ => rfl))))
        (pe_op op_sub (pe_op op_pow pe_int pe_int) pe_int)))
    (pss_one (ps_ret (pe_op op_mod (pe_op op_fdiv (pe_op op_mod (pe_op op_pow (pv 3) pe_int) (pe_op op_add (pe_op op_pow pe_int pe_int) pe_int)) pe_int) (pv 1))))))), ?_⟩
  obtain ⟨gs0, x0, fo, n, e1, e2, hf0, hf1, hn0, hn1⟩ := T.ex
  have gt : g ≠ t := by
    refine ne_of e2 e1 fun q => ?_
    have q2 := congrArg (fun o : HO => match o with | .lst (V.ref _ :: _) => true | _ => false) q
    cases gs0 <;> simp at q2
  -- what stands behind the while
  refine ⟨fun σ H' => σ = [some (.ref t), some (.int many), none, none] ∧ ∃ (gs : List Int) (x : Int), Kp [t, g] H H' ∧ H' t = some (.lst [.ref g, .int x, .int fo, .int n]) ∧ H' g = some (.lst (gs.map V.int)), ?_, ?_⟩
  · refine ⟨fun m σ H' => σ = [some (.ref t), some (.int many), none, none] ∧ ∃ (gs : List Int) (x : Int), m = gs.length ∧ Kp [t, g] H H' ∧ H' t = some (.lst [.ref g, .int x, .int fo, .int n]) ∧ H' g = some (.lst (gs.map V.int)),
      ⟨_, rfl, gs0, x0, rfl, .refl _ _, e1, e2⟩, ?_⟩
    rintro m σ H1 ⟨rfl, gs, x, rfl, kp, h1, h2⟩
    refine ⟨_, rfl, t, _, _, _, rfl, rfl, SqL.of h1, atI_nat (j := 1) rfl, _, _, rfl, rfl, _, rfl, ite2 (fun c => ?_) (fun c => ?_)⟩
    · refine ⟨_, rfl, t, _, _, _, rfl, rfl, SqL.of h1, atI_nat (j := 0) rfl, Nat.zero_le _, fun p np => ?_⟩
      have h1' : upd H1 p (.lst []) t = _ := upd_at h1 np
      have h2' : upd H1 p (.lst []) g = _ := upd_at h2 np
      have kp' : Kp [t, g] H (upd H1 p (.lst [])) := kp.trans (.new np)
      refine ⟨.list (gs.map PyData.int), .list [], .lst (SqL.of h2') (dpInts gs), .lst (SqL.of upd_same) .nil, PySem.W.shaped_ints gs, by decide +kernel, _, rfl, ?_⟩
      rw [eqv_ints_nil]
      cases gs with
      | nil => exact iteF ⟨rfl, [], x, kp', h1', h2'⟩
      | cons y r =>
        refine iteT ⟨fun σ H' => σ = [some (.ref t), some (.int many), none, none] ∧ ∃ (x : Int), Kp [t, g] H H' ∧ H' t = some (.lst [.ref g, .int x, .int fo, .int n]) ∧ H' g = some (.lst (r.map V.int)), ?_, ?_⟩
        · rintro σ' H' ⟨e, x', k1, k2, k3⟩
          exact ⟨_, Nat.lt_succ_self _, e, r, x', rfl, k1, k2, k3⟩
        · have h3 : upd (upd H1 p (.lst [])) g (.lst (r.map V.int)) t = _ := (upd_ne gt.symm).trans h1'
          refine ⟨_, rfl, t, _, _, _, rfl, rfl, SqL.of h1', atI_nat (j := 0) rfl, .inl ⟨rfl, _, SqL.of h2'⟩, g, _, 0, 0, _, rfl, rfl, h2', by decide, by decide, by simp [seqIndex?], rfl, ?_⟩
          refine ⟨_, rfl, t, _, 1, 1, rfl, rfl, h3, rfl, rfl, y, ?_, upd_same, ?_⟩
          · exact (kp'.trans (.set h2' (by simp))).trans (.set h3 (by simp))
          · rw [upd_ne gt]
            exact upd_same
    · exact iteF ⟨rfl, gs, x, kp, h1, h2⟩
  · rintro σ H1 ⟨rfl, gs, x, kp, h1, h2⟩
    refine ⟨_, rfl, t, _, _, _, rfl, rfl, SqL.of h1, atI_nat (j := 1) rfl, _, _, rfl, rfl, _, rfl, ite2 (fun c => ?_) (fun c => ?_)⟩
    · refine ⟨_, rfl, t, _, _, _, rfl, rfl, SqL.of h1, atI_nat (j := 1) rfl, _, rfl, _, _, rfl, rfl, hm0, ?_⟩
      refine ⟨_, rfl, t, _, _, _, rfl, rfl, SqL.of h1, atI_nat (j := 1) rfl, _, rfl, _, _, rfl, rfl, ⟨hm0, hm1⟩, ?_⟩
      refine ⟨_, rfl, t, _, 1, 1, rfl, rfl, h1, rfl, _, rfl, ?_⟩
      refine q _ _ (Int.emod_nonneg _ (by omega)) (Int.emod_lt_of_pos _ hm0) ⟨gs, _, fo, n, upd_same, (upd_ne gt).trans h2, hf0, hf1, hn0, by omega⟩ (kp.trans (.set h1 (by simp)))
    · refine ⟨_, rfl, t, _, _, _, rfl, rfl, SqL.of h1, atI_nat (j := 3) rfl, _, _, rfl, rfl, _, rfl, t, _, 3, 3, rfl, rfl, h1, rfl, ?_⟩
      have h3 : upd H1 t (.lst [.ref g, .int x, .int fo, .int (n + 1)]) t = _ := upd_same
      have b1 : n ≤ 2 ^ 60 := by omega
      refine ⟨_, rfl, t, _, _, _, rfl, rfl, SqL.of h3, atI_nat (j := 2) rfl, _, _, rfl, rfl, _, rfl, t, _, _, _, rfl, rfl, SqL.of h3, atI_nat (j := 3) rfl, _, _, rfl, rfl, _, _, rfl, rfl, ⟨by decide, by decide, by omega⟩, _, _, rfl, rfl, .inl ⟨by omega, by omega⟩,
        _, rfl, t, _, _, _, rfl, rfl, SqL.of h3, atI_nat (j := 3) rfl, _, _, rfl, rfl, .inl ⟨by decide, by decide⟩, _, _, rfl, rfl, _, _, rfl, rfl, ⟨by decide, by decide, by decide⟩, _, _, rfl, rfl, _, _, rfl, rfl, m61, ?_⟩
      generalize hmix : ((fo + 5) * (n + 1 + 2) ^ Int.toNat 3 + 1000003 * (n + 1)) % (2 ^ Int.toNat 61 - 1) = mx
      have bm : 0 ≤ mx ∧ mx < 2 ^ 61 := hmix ▸ mod61 _
      refine ⟨_, rfl, _, _, rfl, rfl, ⟨by decide, by decide, ?_⟩, _, _, rfl, rfl, ⟨by decide, by decide, by decide⟩, _, _, rfl, rfl, _, _, rfl, rfl, (by show (0 : Int) < 10 ^ Int.toNat 18 + 9; decide), _, _, rfl, rfl, ⟨by decide, by decide⟩, _, rfl, _, _, rfl, rfl, hm0, ?_⟩
      · subst hmix
        show (((fo + 5) * (n + 1 + 2) ^ Int.toNat 3 + 1000003 * (n + 1)) % (2 ^ Int.toNat 61 - 1)).natAbs < 2 ^ 64
        omega
      · exact q _ _ (Int.emod_nonneg _ (by omega)) (Int.emod_lt_of_pos _ hm0) ⟨gs, x, fo, n + 1, upd_same, (upd_ne gt).trans h2, hf0, hf1, by omega, by omega⟩ (kp.trans (.set h1 (by simp)))
end
end FR

namespace FR
open PySem PySem.Spec PyProof.Rows L2
abbrev sWord : Stmt := top 16
section
variable {P : Program} {w : World} {K : PySem.W.Frag} {mg : Str → Option Value} {base : Heap}
structure DrawC (P : Program) (w : World) (K : PySem.W.Frag) (mg : Str → Option Value) (base : Heap) (j : Nat) (f : Addr) (fd : FuncData) : Prop where
  ok : FnOk P w K mg base CX0 j f fd ["tray", "many"] spDraw
  m : mg "_law_draw" = some (.ref f)
  kp : PySem.W.keepIn K (.ref f) = true
  b : Binds K fd ["tray", "many"] []
theorem scWord : FnScope ["tray", "some", "letters", "k"] ["tray"] (defScope sWord) := ⟨rfl, rfl, rfl, by decide +kernel, rfl, by decide +kernel, by decide +kernel⟩
theorem ok_word {f fD : Addr} {fd fdD : FuncData} {k : Nat} (F : Fun K "_law_word" "_law_word" sWord f fd) (D : DrawC P w K mg base k fD fdD) (mr : mg "range" = none) : FnOk P w K mg base CX0 (k + 1) f fd ["tray"] spWord := by
  refine F.ok scWord (fun vs H Q E h => ?_) (fun cdv A outer s H vs Q E hr h => ?_)
  · obtain ⟨t, g, N, rfl, _⟩ := h
    rfl
  obtain ⟨t, g, N, rfl, T, hN, q⟩ := h
  refine ⟨_, pss_cons (ps_set (i := 1) scWord.nd rfl (.inl rfl) (pe_lst (pa_cons pe_str (pa_cons pe_str (pa_cons pe_str (pa_cons pe_str (pa_cons pe_str (pa_cons pe_str (pa_cons pe_str (pa_cons pe_str pa_nil))))))))))
    (pss_cons (ps_if (pt_cmpR op_gt (pe_call D.ok hr (by rfl) D.m D.kp D.b .nil pass0 (pa_cons (pv 0) (pa_cons pe_int pa_nil))) pe_int (nomark _))
      (pss_one (ps_ret (pe_ix ix_list (pv 1) (pe_call D.ok hr (by rfl) D.m D.kp D.b .nil pass0 (pa_cons (pv 0) (pa_cons pe_int pa_nil))) (fun _ _ => rfl)))) pss_nil)
    (pss_cons (ps_set (i := 2) scWord.nd rfl (.inr rfl) pe_str)
    (pss_one (ps_ret (pe_join pe_str (pe_lc (own := [("k", 3)]) (g := gName 3) (tt := tYes) rfl scWord.nd (pi_range1 (by rfl) mr (pa_cons (pe_op op_add pe_int (pe_call D.ok hr (by rfl) D.m D.kp D.b .nil pass0 (pa_cons (pv 0) (pa_cons pe_int pa_nil)))) pa_nil))
      (blkOk_by (N := ["tray", "some", "letters", "k"]) (sc := defScope sWord) (by decide +kernel)) (fun _ _ _ _ _ => pg_name (i := 3) scWord.nd rfl (Or.inl rfl)) (fun _ _ _ _ _ => pts_nil)
      (fun _ _ _ _ _ => pe_ix ix_str (pv 2) (pe_call D.ok hr (by rfl) D.m D.kp D.b .nil pass0 (pa_cons (pv 0) (pa_cons pe_int pa_nil))) (fun _ _ => rfl)))))))), ?_⟩
  refine ⟨(by show 8 ≤ sizeLine; decide), fun sm nsm => ?_⟩
  have T1 := T.same (same_new (o := .lst (someWords.map V.str)) nsm)
  have nS := T.neT nsm
  refine ⟨_, rfl, t, g, N, 3, rfl, T1, by omega, by decide, by decide, fun H2 k2 hk0 hk1 T2 kp2 => ?_⟩
  have hs2 : H2 sm = some (.lst (someWords.map V.str)) := kp2.lst upd_same nS
  refine ⟨_, _, rfl, rfl, _, rfl, ite2 (fun c => ?_) (fun c => ?_)⟩
  · refine ⟨_, rfl, _, rfl, t, g, N + 1, 8, rfl, T2, by omega, by decide, by decide, fun H3 k3 h30 h31 T3 kp3 => ?_⟩
    obtain ⟨s, hs, ok⟩ := some_at h30 h31
    refine ⟨sm, _, _, _, rfl, rfl, SqL.of (kp3.lst hs2 nS), hs, ?_⟩
    exact q _ s ok (T3.mono (by omega)) (((Kp.new nsm).trans kp2).trans kp3)
  · refine ⟨⟨_, rfl⟩, _, rfl, t, g, N + 1, 8, rfl, T2, by omega, by decide, by decide, fun H3 k3 h30 h31 T3 kp3 => ?_⟩
    have kH : Kp [t, g] H H3 := ((Kp.new nsm).trans kp2).trans kp3
    refine ⟨_, _, rfl, rfl, 1 + k3, rfl, by omega, by omega, fun D nD => ?_⟩
    have nDH : H D = none := kH.dm D nD
    refine lc_range (lo := 0) (n := (1 + k3).toNat) (fun i H' => ∃ l : List Nat, H' D = some (.lst (l.map fun c => V.str ⟨#[c]⟩)) ∧ l.length = i ∧ (∀ c ∈ l, 97 ≤ c ∧ c ≤ 122) ∧ TrayAt H' t g (N + 2 + i) ∧ Kp [t, g] H H')
      ⟨[], upd_same, rfl, by simp, (T3.same (same_new nD)).mono (by omega), kH.over nDH⟩ ?_ ?_
    · rintro i H4 hi ⟨l, hD, hl, hc, T4, kp4⟩
      refine ⟨rfl, _, rfl, _, rfl, t, g, N + 2 + i, 26, rfl, T4, by omega, by decide, by decide, fun H5 k5 h50 h51 T5 kp5 => ?_⟩
      have nDt : D ∉ [t, g] := T.neT nDH
      refine ⟨_, k5, _, rfl, rfl, abc_len, abc_at h50 h51, _, kp5.lst hD nDt, ?_, l ++ [97 + k5.toNat], ?_, ?_, ?_, ?_, (kp4.trans kp5).over nDH⟩
      · rw [List.length_map]
        exact small1000 (by omega)
      · rw [upd_same, List.map_append]
        rfl
      · rw [List.length_append, hl]
        rfl
      · intro c m
        rcases List.mem_append.mp m with m | m
        · exact hc c m
        · rw [List.mem_singleton.mp m]
          omega
      · exact (T5.over nDt).mono (by omega)
    · rintro H4 ⟨l, hD, hl, hc, T4, kp4⟩
      have hl8 : l.length ≤ 8 := by omega
      refine ⟨Str.empty, D, l.map fun c => (⟨#[c]⟩ : Str), rfl, rfl, .inl (SqL.of (by rw [hD, List.map_map]; rfl)), ?_, ?_⟩
      · rw [ones_sum, List.length_map]
        show l.length + l.length * 0 ≤ 16777216
        omega
      · refine q _ _ ?_ (T4.mono (by omega)) kp4
        unfold WordOk
        rw [join_one]
        exact ⟨by omega, hl8, hc⟩
end
end FR

namespace FR
open PySem PySem.Spec PyProof.Rows L2
abbrev sWhat : Stmt := top 17
section
variable {P : Program} {w : World} {K : PySem.W.Frag} {mg : Str → Option Value} {base : Heap}
/-- a def that stands at a name of the module -/
structure Cal (P : Program) (w : World) (K : PySem.W.Frag) (mg : Str → Option Value) (base : Heap) (j : Nat) (x : Str) (ps : List Str) (sp : Sp) (f : Addr) (fd : FuncData) : Prop where
  ok : FnOk P w K mg base CX0 j f fd ps sp
  m : mg x = some (.ref f)
  kp : PySem.W.keepIn K (.ref f) = true
  b : Binds K fd ps []
theorem Cal.mono {i j : Nat} {x : Str} {ps : List Str} {sp : Sp} {f : Addr} {fd : FuncData} (c : Cal P w K mg base i x ps sp f fd) (h : i ≤ j) : Cal P w K mg base j x ps sp f fd := ⟨c.ok.mono h, c.m, c.kp, c.b⟩
theorem scWhat : FnScope ["tray", "who", "many", "mights", "lot", "might", "right", "whom"] ["tray", "who", "many", "mights"] (defScope sWhat) := ⟨rfl, rfl, rfl, by decide +kernel, rfl, by decide +kernel, by decide +kernel⟩
theorem ok_what {f fD fW : Addr} {fd fdD fdW : FuncData} {k : Nat} (F : Fun K "_law_what" "_law_what" sWhat f fd) (D : DrawC P w K mg base k fD fdD) (W : Cal P w K mg base k "_law_word" ["tray"] spWord fW fdW) (ml : mg "len" = none) : FnOk P w K mg base CX0 (k + 1) f fd ["tray", "who", "many", "mights"] spWhat := by
  refine F.ok scWhat (fun vs H Q E h => ?_) (fun cdv A outer s H vs Q E hr h => ?_)
  · obtain ⟨t, g, m, N, who, many, ms, rfl, _⟩ := h
    rfl
  obtain ⟨t, g, m, N, who, many, ms, rfl, T, hN, hw0, hw1, hm6, hm, nm, ne, ml3, mok, q⟩ := h
  refine ⟨_, pss_cons (ps_set (i := 4) scWhat.nd rfl (.inl rfl) (pe_call D.ok hr (by rfl) D.m D.kp D.b .nil pass0 (pa_cons (pv 0) (pa_cons pe_int pa_nil))))
    (pss_cons (ps_set (i := 5) scWhat.nd rfl (.inl rfl) (pe_ix ix_list (pv 3) (pe_call D.ok hr (by rfl) D.m D.kp D.b .nil pass0 (pa_cons (pv 0) (pa_cons (pe_callB call_len_seq (by rfl) ml PySem.boot_len (pa_cons (pv 3) pa_nil)) pa_nil))) (fun _ _ => rfl)))
    (C8.pss_cut (ps_if (PW.pt (pw_and (pt_cmpR op_lt (pv 4) pe_int (nomark _)) (pw_and1 (pt_cmpR op_lt (pe_op op_add (pv 1) pe_int) (pv 2) (nomark _)))))
      (pss_cons (ps_set (i := 6) scWhat.nd rfl (.inl rfl) (pe_ix ix_list (pe_lst (pa_cons pe_str (pa_cons pe_str pa_nil))) (pe_call D.ok hr (by rfl) D.m D.kp D.b .nil pass0 (pa_cons (pv 0) (pa_cons pe_int pa_nil))) (fun _ _ => rfl)))
      (pss_cons (ps_set (i := 7) scWhat.nd rfl (.inl rfl) (pe_op op_add (pe_op op_add (pv 1) pe_int) (pe_call D.ok hr (by rfl) D.m D.kp D.b .nil pass0 (pa_cons (pv 0) (pa_cons (pe_op op_sub (pe_op op_sub (pv 2) pe_int) (pv 1)) pa_nil)))))
      (pss_one (ps_ret (pe_tup (pa_cons (pe_ix ix_list (pe_lst (pa_cons pe_str (pa_cons pe_str (pa_cons pe_str (pa_cons pe_str pa_nil))))) (pv 4) (fun _ _ => rfl)) (pa_cons (pv 5) (pa_cons (pv 6) (pa_cons (pv 7) pa_nil))))))))) pss_nil)
    (pss_one (ps_ret (pe_tup (pa_cons pe_str (pa_cons (pv 5) (pa_cons (pe_call W.ok hr (by rfl) W.m W.kp W.b .nil pass0 (pa_cons (pv 0) pa_nil)) pa_nil)))))))), ?_⟩
  have l0 : 0 < ms.length := Nat.pos_of_ne_zero fun e => ne (List.length_eq_zero_iff.mp e)
  refine ⟨_, rfl, t, g, N, 6, rfl, T, by omega, by decide, by decide, fun H1 lot hl0 hl6 T1 k1 => ?_⟩
  have hm1 := k1.lst hm nm
  refine ⟨_, rfl, _, rfl, _, rfl, m, _, rfl, .inl (SqL.of hm1), t, g, N + 1, (ms.length : Int), (by rw [List.length_map]; rfl), T1, by omega, by omega, by omega, fun H2 j hj0 hj1 T2 k2 => ?_⟩
  have hm2 := k2.lst hm1 nm
  obtain ⟨mt, mm, hmt⟩ := strs_at (ms := ms) hj0 hj1
  have kH2 := k1.trans k2
  refine ⟨m, _, _, _, rfl, rfl, SqL.of hm2, hmt, ?_⟩
  refine ⟨fun σ H' => σ = [some (.ref t), some (.int who), some (.int many), some (.ref m), some (.int lot), some (.str mt), none, none] ∧ H' = H2, ?_, ?_⟩
  · refine ⟨_, rfl, _, _, rfl, rfl, _, rfl, ite2 (fun c => ?_) (fun c => iteF ⟨rfl, rfl⟩)⟩
    have hl4 : lot < 4 := of_decide_eq_true c
    refine ⟨_, rfl, _, _, rfl, rfl, _, rfl, _, _, rfl, rfl, _, rfl, ite2 (fun c2 => ?_) (fun c2 => ⟨rfl, rfl⟩)⟩
    have hwm : who + 1 < many := of_decide_eq_true c2
    refine ⟨(by show 2 ≤ sizeLine; decide), fun p np => ?_⟩
    have T2' := T2.same (same_new (o := .lst [.str "use", .str "lead"]) np)
    refine ⟨_, rfl, t, g, N + 2, 2, rfl, T2', by omega, by decide, by decide, fun H3 k3 h30 h31 T3 kp3 => ?_⟩
    obtain ⟨ki, hki, eki⟩ := kind_at h30 h31
    refine ⟨p, _, _, _, rfl, rfl, SqL.of (kp3.lst upd_same (T2.neT np)), eki, ?_⟩
    refine ⟨_, rfl, _, _, rfl, rfl, _, rfl, _, rfl, _, _, rfl, rfl, _, rfl, _, _, rfl, rfl, t, g, N + 3, many - 1 - who, rfl, T3, by omega, by omega, by omega, fun H4 k4 h40 h41 T4 kp4 => ?_⟩
    refine ⟨_, _, rfl, rfl, ?_⟩
    refine ⟨(by show 4 ≤ sizeLine; decide), fun p2 np2 => ?_⟩
    obtain ⟨de, hde, ede⟩ := deal_at hl0 hl4
    refine ⟨_, rfl, p2, _, _, _, rfl, rfl, SqL.of upd_same, ede, _, rfl, _, rfl, _, rfl, (by show 4 ≤ sizeLine; decide), fun p3 np3 => ?_⟩
    have kH : Kp [t, g] H (upd H4 p2 (.lst [.str "give", .str "give", .str "give", .str "take"])) := (((kH2.trans (.new np)).trans kp3).trans kp4).trans (.new np2)
    have T5 := (T4.same (same_new np2)).same (same_new (o := .tup [.str de, .str mt, .str ki, .int (who + 1 + k4)]) np3)
    rcases hde with rfl | rfl
    · exact q _ p3 (.give mt ki (who + 1 + k4)) (kH.dm _ np3) upd_same ⟨mok _ mm, hki, by omega, by omega⟩ (T5.mono (by omega)) (kH.trans (.new np3))
    · exact q _ p3 (.take mt ki (who + 1 + k4)) (kH.dm _ np3) upd_same ⟨mok _ mm, hki, by omega, by omega⟩ (T5.mono (by omega)) (kH.trans (.new np3))
  · rintro σ H' ⟨rfl, rfl⟩
    refine ⟨_, rfl, _, rfl, t, g, N + 2, rfl, T2, by omega, fun H3 s ok T3 kp3 => ?_⟩
    refine ⟨(by show 3 ≤ sizeLine; decide), fun p3 np3 => ?_⟩
    have kH := kH2.trans kp3
    exact q _ p3 (.use mt s) (kH.dm _ np3) upd_same ⟨mok _ mm, ok⟩ ((T3.same (same_new np3)).mono (by omega)) (kH.trans (.new np3))
end
end FR

namespace FR
open PySem PySem.Spec PyProof.Rows L2
abbrev sWorld : Stmt := top 18
abbrev sMost : Stmt := top 19
section
variable {P : Program} {w : World} {K : PySem.W.Frag} {mg : Str → Option Value} {base : Heap}
theorem scMost : FnScope ["tray"] ["tray"] (defScope sMost) := ⟨rfl, rfl, rfl, by decide +kernel, rfl, by decide +kernel, by decide +kernel⟩
theorem ok_most {f fD : Addr} {fd fdD : FuncData} {k : Nat} (F : Fun K "_law_most" "_law_most" sMost f fd) (D : DrawC P w K mg base k fD fdD) : FnOk P w K mg base CX0 (k + 1) f fd ["tray"] spMost := by
  refine F.ok scMost (fun vs H Q E h => ?_) (fun cdv A outer s H vs Q E hr h => ?_)
  · obtain ⟨t, g, N, rfl, _⟩ := h
    rfl
  obtain ⟨t, g, N, rfl, T, hN, q⟩ := h
  refine ⟨_, pss_one (ps_ret (pe_ix ix_list (pe_lst (pa_cons pe_int (pa_cons pe_int (pa_cons pe_int (pa_cons pe_int pa_nil))))) (pe_op op_fdiv (pe_call D.ok hr (by rfl) D.m D.kp D.b .nil pass0 (pa_cons (pv 0) (pa_cons pe_int pa_nil))) pe_int) (fun _ _ => rfl))), ?_⟩
  refine ⟨(by show 4 ≤ sizeLine; decide), fun p np => ?_⟩
  refine ⟨_, rfl, t, g, N, 16, rfl, T.same (same_new np), by omega, by decide, by decide, fun H1 k1 h0 h1 T1 kp1 => ?_⟩
  have kH := (Kp.new (o := .lst [.int 6, .int 15, .int 30, .int 110]) np).trans kp1
  have hp := kp1.lst upd_same (T.neT np)
  refine ⟨_, _, rfl, rfl, ⟨by decide, by decide⟩, p, _, _, .int (([6, 15, 30, 110] : List Int).getD (k1 / 5).toNat 0), rfl, rfl, SqL.of hp, ?_, ?_⟩
  · have hk : (k1 / 5).toNat < 4 := by omega
    refine at_of (j := (k1 / 5).toNat) (by omega) ?_
    have q : ∀ j : Fin 4, ([.int 6, .int 15, .int 30, .int 110] : List V)[j.val]? = some (.int (([6, 15, 30, 110] : List Int).getD j.val 0)) := by decide
    exact q ⟨_, hk⟩
  · have hk : (k1 / 5).toNat < 4 := by omega
    have b : ∀ j : Fin 4, 0 ≤ ([6, 15, 30, 110] : List Int).getD j.val 0 ∧ ([6, 15, 30, 110] : List Int).getD j.val 0 ≤ 110 := by decide
    exact q _ _ (b ⟨_, hk⟩).1 (b ⟨_, hk⟩).2 T1 kH

abbrev nWorld : List Str := ["tray", "most", "many", "mights", "known", "acts", "turn", "who", "other", "k", "one", "two"]
theorem scWorld : FnScope nWorld ["tray", "most"] (defScope sWorld) := ⟨rfl, rfl, rfl, by decide +kernel, rfl, by decide +kernel, by decide +kernel⟩
theorem ok_world {f fD fW fT : Addr} {fd fdD fdW fdT : FuncData} {k : Nat} (F : Fun K "_law_world" "_law_world" sWorld f fd) (D : DrawC P w K mg base k fD fdD) (W : Cal P w K mg base k "_law_word" ["tray"] spWord fW fdW)
    (T : Cal P w K mg base k "_law_what" ["tray", "who", "many", "mights"] spWhat fT fdT) (mr : mg "range" = none) (mx : mg "max" = none) (mz : mg "zip" = none) (mt : mg "tuple" = none) : FnOk P w K mg base CX0 (k + 1) f fd ["tray", "most"] spWorld := by
  refine F.ok scWorld (fun vs H Q E h => ?_) (fun cdv A outer s H vs Q E hr h => ?_)
  · obtain ⟨t, g, N, most, rfl, _⟩ := h
    rfl
  obtain ⟨t, g, N, most, rfl, TA, hm0, hm1, hN, q⟩ := h
  refine ⟨_, pss_cons (ps_set (i := 2) scWorld.nd rfl (.inr rfl) (pe_ix ix_list (pe_lst (pa_cons (pe_op op_add pe_int (pe_call D.ok hr (by rfl) D.m D.kp D.b .nil pass0 (pa_cons (pv 0) (pa_cons pe_int pa_nil)))) (pa_cons (pe_op op_add pe_int (pe_call D.ok hr (by rfl) D.m D.kp D.b .nil pass0 (pa_cons (pv 0) (pa_cons pe_int pa_nil)))) (pa_cons pe_int (pa_cons pe_int pa_nil)))))
        (pe_call D.ok hr (by rfl) D.m D.kp D.b .nil pass0 (pa_cons (pv 0) (pa_cons pe_int pa_nil))) (fun _ _ => rfl)))
    (pss_cons (ps_setLc (i := 3) (own := [("k", 9)]) (g := gName 9) (tt := tYes) (by rfl) scWorld.nd rfl rfl (sw_true rfl rfl rfl (by decide +kernel)) (pi_range1 (by rfl) mr (pa_cons (pe_op op_add pe_int (pe_call D.ok hr (by rfl) D.m D.kp D.b .nil pass0 (pa_cons (pv 0) (pa_cons pe_int pa_nil)))) pa_nil))
        (blkOk_by (N := nWorld) (sc := defScope sWorld) (by decide +kernel)) (fun _ _ _ _ _ => pg_name (i := 9) scWorld.nd rfl (Or.inl rfl)) (fun _ _ _ _ _ => pts_nil)
        (fun _ _ _ _ _ => pe_call W.ok hr (by rfl) W.m W.kp W.b .nil pass0 (pa_cons (pv 0) pa_nil)))
    (pss_cons (ps_setLc (i := 4) (own := [("k", 9)]) (g := gName 9) (tt := tYes) (by rfl) scWorld.nd rfl rfl (sw_true rfl rfl rfl (by decide +kernel)) (pi_range1 (by rfl) mr (pa_cons (pv 2) pa_nil))
        (blkOk_by (N := nWorld) (sc := defScope sWorld) (by decide +kernel)) (fun _ _ _ _ _ => pg_name (i := 9) scWorld.nd rfl (Or.inl rfl)) (fun _ _ _ _ _ => pts_nil)
        (fun _ _ _ _ _ => pe_op op_rep (pe_lst (pa_cons pe_int pa_nil)) (pv 2)))
    (pss_cons (ps_set (i := 5) scWorld.nd rfl (.inl rfl) (pe_lst pa_nil))
    (pss_cons (ps_for PassesOwn.never rfl (pi_range1 (by rfl) mr (pa_cons (pe_call D.ok hr (by rfl) D.m D.kp D.b .nil pass0 (pa_cons (pv 0) (pa_cons (pe_op op_add (pv 1) pe_int) pa_nil))) pa_nil)) (pg_name (i := 6) scWorld.nd rfl (.inl rfl))
      (pss_cons (ps_set (i := 7) scWorld.nd rfl (.inl rfl) (pe_call D.ok hr (by rfl) D.m D.kp D.b .nil pass0 (pa_cons (pv 0) (pa_cons (pv 2) pa_nil))))
      (C8.pss_cut (ps_if (pt_cmpR op_gt (pe_call D.ok hr (by rfl) D.m D.kp D.b .nil pass0 (pa_cons (pv 0) (pa_cons pe_int pa_nil))) pe_int (nomark _))
          (pss_cons (ps_set (i := 8) scWorld.nd rfl (.inl rfl) (pe_call D.ok hr (by rfl) D.m D.kp D.b .nil pass0 (pa_cons (pv 0) (pa_cons (pv 2) pa_nil))))
          (pss_one (ps_asg (pe_lc (own := [("one", 10), ("two", 11)]) (g := gTup K 2 (gCons (gName 10) (gCons (gName 11) gNil))) (tt := tYes) rfl scWorld.nd
              (pi_zip (by rfl) mz (pa_cons (pe_ix ix_list (pv 4) (pv 7) (fun _ _ => rfl)) (pa_cons (pe_ix ix_list (pv 4) (pv 8) (fun _ _ => rfl)) pa_nil)))
              (blkOk_by (N := nWorld) (sc := defScope sWorld) (by decide +kernel)) (fun _ _ _ _ _ => pg_tup rfl (pgs_cons (pg_name (i := 10) scWorld.nd rfl (Or.inl rfl)) (pgs_cons (pg_name (i := 11) scWorld.nd rfl (Or.inl rfl)) pgs_nil))) (fun _ _ _ _ _ => pts_nil)
              (fun _ _ _ _ _ => pe_callB (call_max2 rfl) (by rfl) mx (by decide +kernel) (pa_cons (pv 10) (pa_cons (pv 11) pa_nil)))) (pg_sub (pv 4) (pv 7) set_list)))) pss_nil)
      (pss_cons (ps_expr (pe_bm PySem.F.plainAttrs_list PySem.F.slot_list_append PySem.F.type_list_append mt_append (pv 5) (pa_cons (pe_tup (pa_cons (pv 7) (pa_cons (pe_op op_add (pe_ix ix_list (pe_ix ix_list (pv 4) (pv 7) (fun _ _ => rfl)) (pv 7) (fun _ _ => rfl)) pe_int)
          (pa_cons (pe_callTy call_tuple_of (by rfl) mt (by decide +kernel) (pa_cons (pe_ix ix_list (pv 4) (pv 7) (fun _ _ => rfl)) pa_nil)) (pa_cons (pe_call T.ok hr (by rfl) T.m T.kp T.b .nil pass0 (pa_cons (pv 0) (pa_cons (pv 7) (pa_cons (pv 2) (pa_cons (pv 3) pa_nil))))) pa_nil))))) pa_nil)))
      (pss_one (ps_asg (pe_op op_add (pe_ix ix_list (pe_ix ix_list (pv 4) (pv 7) (fun _ _ => rfl)) (pv 7) (fun _ _ => rfl)) pe_int) (pg_sub (pe_ix ix_list (pv 4) (pv 7) (fun _ _ => rfl)) (pv 7) set_list)))))))
    (pss_one (ps_ret (pe_lst (pa_cons (pv 2) (pa_cons (pv 5) pa_nil))))))))), ?_⟩
  -- many
  refine ⟨_, rfl, t, g, N, 6, rfl, TA, by omega, by decide, by decide, fun H1 k1 h10 h11 T1 kp1 => ?_⟩
  refine ⟨_, _, rfl, rfl, _, rfl, t, g, N + 1, 5, rfl, T1, by omega, by decide, by decide, fun H2 k2 h20 h21 T2 kp2 => ?_⟩
  refine ⟨_, _, rfl, rfl, (by show 4 ≤ sizeLine; decide), fun p np => ?_⟩
  refine ⟨_, rfl, t, g, N + 2, 4, rfl, T2.same (same_new np), by omega, by decide, by decide, fun H3 k3 h30 h31 T3 kp3 => ?_⟩
  obtain ⟨many, emv, b1, b6⟩ : ∃ many : Nat, atI ([.int (1 + k1), .int (2 + k2), .int 3, .int 4] : List V) k3 = some (.int many) ∧ 1 ≤ many ∧ many ≤ 6 := by
    have e3 : k3 = 0 ∨ k3 = 1 ∨ k3 = 2 ∨ k3 = 3 := by omega
    rcases e3 with rfl | rfl | rfl | rfl
    · exact ⟨(1 + k1).toNat, by rw [Int.toNat_of_nonneg (by omega)]; rfl, by omega, by omega⟩
    · exact ⟨(2 + k2).toNat, by rw [Int.toNat_of_nonneg (by omega)]; rfl, by omega, by omega⟩
    · exact ⟨3, rfl, by omega, by omega⟩
    · exact ⟨4, rfl, by omega, by omega⟩
  refine ⟨p, _, _, _, rfl, rfl, SqL.of (kp3.lst upd_same (T2.neT np)), emv, ?_⟩
  have kH3 : Kp [t, g] H H3 := ((kp1.trans kp2).trans (.new np)).trans kp3
  -- mights
  refine ⟨_, rfl, t, g, N + 3, 3, rfl, T3, by omega, by decide, by decide, fun H4 k4 h40 h41 T4 kp4 => ?_⟩
  have kH4 := kH3.trans kp4
  refine ⟨_, _, rfl, rfl, 1 + k4, rfl, by omega, by omega, fun m nm => ?_⟩
  have nmH : H m = none := kH4.dm m nm
  have nmT : m ∉ [t, g] := TA.neT nmH
  refine lc_range (lo := 0) (n := (1 + k4).toNat) (fun i H' => ∃ ms : List Str, H' m = some (.lst (ms.map V.str)) ∧ ms.length = i ∧ (∀ s ∈ ms, WordOk s) ∧ TrayAt H' t g (N + 4 + 12 * i) ∧ Kp [t, g] H H')
    ⟨[], upd_same, rfl, by simp, T4.same (same_new nm), kH4.over nmH⟩ ?_ ?_
  · rintro i H5 hi ⟨ms, hm, hl, hok, T5, kp5⟩
    refine ⟨rfl, _, rfl, t, g, N + 4 + 12 * i, rfl, T5, by omega, fun H6 s ok T6 kp6 => ?_⟩
    refine ⟨_, kp6.lst hm nmT, ?_, ms ++ [s], ?_, ?_, ?_, (T6.over nmT).mono (by omega), (kp5.trans kp6).over nmH⟩
    · rw [List.length_map]
      exact small1000 (by omega)
    · rw [upd_same, List.map_append]
      rfl
    · rw [List.length_append, hl]
      rfl
    · intro c mc
      rcases List.mem_append.mp mc with mc | mc
      · exact hok c mc
      · rw [List.mem_singleton.mp mc]
        exact ok
  rintro H5 ⟨ms, hm5, hl5, hok, T5, kp5⟩
  have ml3 : ms.length ≤ 3 := by omega
  have mne : ms ≠ [] := fun e => by
    rw [e, List.length_nil] at hl5
    omega
  -- known
  refine ⟨_, rfl, _, rfl, by omega, by omega, fun kn nkn => ?_⟩
  have nknH : H kn = none := kp5.dm kn nkn
  have nknT : kn ∉ [t, g] := TA.neT nknH
  have nknm : kn ≠ m := ne_new hm5 nkn
  refine lc_range (lo := 0) (n := ((many : Nat) : Int).toNat) (fun i H' => ∃ as : List Addr, H' kn = some (.lst (as.map V.ref)) ∧ as.length = i ∧ RowsAt H' as (List.replicate i (List.replicate many 0)) ∧ as.Nodup ∧
      (∀ a ∈ as, a ∉ [t, g, kn, m] ∧ H a = none) ∧ H' m = some (.lst (ms.map V.str)) ∧ TrayAt H' t g (N + 4 + 12 * 3) ∧ Kp [t, g] H H')
    ⟨[], upd_same, rfl, .nil, List.nodup_nil, by simp, (upd_ne nknm.symm).trans hm5, (T5.same (same_new nkn)).mono (by omega), kp5.over nknH⟩ ?_ ?_
  · rintro i H6 hi ⟨as, hkn, hl, hrow, hnd, hap, hm6, T6, kp6⟩
    refine ⟨rfl, (by show 1 ≤ sizeLine; decide), fun z nz => ?_⟩
    refine ⟨_, rfl, z, _, _, rfl, rfl, upd_same, by omega, by omega, ?_, fun a na => ?_⟩
    · show 1 * ((many : Nat) : Int).toNat ≤ sizeLine
      exact Nat.le_of_lt (small1000 (by omega))
    · have naz : a ≠ z := ne_new upd_same na
      have na6 : H6 a = none := (upd_ne naz).symm.trans na
      have nakn : a ≠ kn := ne_new hkn na6
      have ha : upd (upd H6 z (.lst [.int 0])) a (.lst (List.replicate ((many : Nat) : Int).toNat ([V.int 0] : List V)).flatten) a = some (.lst ((List.replicate many (0 : Int)).map V.int)) := by
        rw [upd_same, rep_zero, Int.toNat_natCast]
      have k7 : Kp [] H6 (upd (upd H6 z (.lst [.int 0])) a (.lst (List.replicate ((many : Nat) : Int).toNat ([V.int 0] : List V)).flatten)) := (Kp.new nz).trans (.new na)
      have nas : a ∉ as := fun ma => by
        obtain ⟨j, hj⟩ := List.getElem?_of_mem ma
        obtain ⟨r, _, e⟩ := paired_at hrow hj
        rw [na6] at e
        cases e
      have k8 : Kp [kn] H6 (upd (upd (upd H6 z (.lst [.int 0])) a (.lst (List.replicate ((many : Nat) : Int).toNat ([V.int 0] : List V)).flatten)) kn (.lst (as.map V.ref ++ [.ref a]))) :=
        (k7.mono (by simp)).trans (.set (k7.lst hkn (by simp)) (by simp))
      refine ⟨_, k7.lst hkn (by simp), ?_, as ++ [a], ?_, ?_, ?_, ?_, ?_, ?_, ?_, ?_⟩
      · rw [List.length_map]
        exact small1000 (by omega)
      · rw [upd_same, List.map_append]
        rfl
      · rw [List.length_append, hl]
        rfl
      · rw [List.replicate_succ']
        refine paired_snoc (F := fun (b : Addr) (r : List Int) => upd (upd (upd H6 z (.lst [.int 0])) a (.lst (List.replicate ((many : Nat) : Int).toNat ([V.int 0] : List V)).flatten)) kn (.lst (as.map V.ref ++ [.ref a])) b = some (.lst (r.map V.int))) (hrow.keep k8 fun b mb => ?_) ((upd_ne nakn).trans ha)
        have q := (hap b mb).1
        simp only [List.mem_cons, List.not_mem_nil, or_false, not_or] at q ⊢
        exact q.2.2.1
      · rw [List.nodup_append]
        refine ⟨hnd, by simp, fun x mx y my => ?_⟩
        rw [List.mem_singleton.mp my]
        exact fun e => nas (e ▸ mx)
      · intro b mb
        rcases List.mem_append.mp mb with mb | mb
        · exact hap b mb
        · rw [List.mem_singleton.mp mb]
          refine ⟨?_, kp6.dm a na6⟩
          have q := TA.neT (kp6.dm a na6)
          simp only [List.mem_cons, List.not_mem_nil, or_false, not_or] at q ⊢
          exact ⟨q.1, q.2, nakn, ne_new hm6 na6⟩
      · exact k8.lst hm6 (by simp; exact nknm.symm)
      · simp only [List.mem_cons, List.not_mem_nil, or_false, not_or] at nknT
        exact T6.keep k8 (by simp; exact fun e => nknT.1 e.symm) (by simp; exact fun e => nknT.2 e.symm)
      · exact ((kp6.trans (k7.mono (by simp))).over nknH)
  rintro H6 ⟨as, hkn, hl, hrow, hnd, hap, hm6, T6, kp6⟩
  rw [Int.toNat_natCast] at hrow hl
  -- acts
  refine ⟨Nat.zero_le _, fun ac nac => ?_⟩
  have nacH : H ac = none := kp6.dm ac nac
  have naT := TA.neT nacH
  have W0 : WAt H (upd H6 ac (.lst [])) t g m kn ac ms as [] [] (List.replicate many (List.replicate many 0)) (N + 40) := by
    have s6 : Same H6 (upd H6 ac (.lst [])) := same_new nac
    refine {
      hkn := s6 _ _ hkn, hac := upd_same, hm := s6 _ _ hm6, rows := hrow.keep (S := []) (.of s6) (by simp), nd := hnd, apart := fun a h => ?_, nkn := ?_, nac := ?_, nm := nmT, acts := .nil, T := T6.same s6, kp := kp6.over nacH, fkn := nknH, fac := nacH, frows := fun a h => (hap a h).2 }
    · have q := (hap a h).1
      simp only [List.mem_cons, List.not_mem_nil, or_false, not_or] at q ⊢
      refine ⟨q.1, q.2.1, q.2.2.1, ?_, q.2.2.2⟩
      obtain ⟨j, hj⟩ := List.getElem?_of_mem h
      obtain ⟨r, _, e⟩ := paired_at hrow hj
      exact ne_of_none e nac
    · simp only [List.mem_cons, List.not_mem_nil, or_false, not_or] at nknT ⊢
      exact ⟨nknT.1, nknT.2, ne_of_none hkn nac, nknm⟩
    · simp only [List.mem_cons, List.not_mem_nil, or_false, not_or] at naT ⊢
      exact ⟨naT.1, naT.2, ne_new hm6 nac⟩
  generalize upd H6 ac (.lst []) = H7 at W0
  -- for turn in range(..)
  refine ⟨_, rfl, _, rfl, _, _, rfl, rfl, t, g, N + 40, most + 1, rfl, W0.T, by omega, by omega, by omega, fun H8 tn h80 h81 T8 kp8 => ?_⟩
  have W8 := W0.keep kp8 T8
  refine ⟨tn, rfl, by omega, by omega, for_range (lo := 0) (n := tn.toNat) (fun i σ H' => ∃ v6 v7 v8, σ = [some (.ref t), some (.int most), some (.int (many : Int)), some (.ref m), some (.ref kn), some (.ref ac), v6, v7, v8, none, none, none] ∧
      ∃ as ps acts known, WAt H H' t g m kn ac ms as ps acts known (N + 41 + 20 * i) ∧ Wd many acts known ∧ acts.length = i)
    ⟨none, none, none, rfl, as, [], [], _, W8, .nil, rfl⟩ ?_ ?_⟩
  · rintro i σ H9 hi ⟨v6, v7, v8, rfl, as, ps, acts, known, W9, wd, hla⟩
    obtain ⟨hkl, hrl⟩ := wd.lens
    -- who
    refine ⟨_, rfl, _, rfl, t, g, _, many, rfl, W9.T, by omega, by omega, by omega, fun HA who ha0 ha1 TA' kpA => ?_⟩
    have WA := W9.keep kpA TA'
    obtain ⟨wi, ewi⟩ : ∃ wi : Nat, who = (wi : Int) := ⟨who.toNat, by omega⟩
    have hwi : wi < known.length := by omega
    obtain ⟨row, hrow⟩ := get_some hwi
    refine ⟨fun σ H' => ∃ v8, σ = [some (.ref t), some (.int most), some (.int (many : Int)), some (.ref m), some (.ref kn), some (.ref ac), some (.int (0 + (i : Int))), some (.int who), v8, none, none, none] ∧
        ∃ as row', WAt H H' t g m kn ac ms as ps acts (known.set wi row') (N + 44 + 20 * i) ∧ (row' = row ∨ ∃ (j : Nat) (ro : List Int), known[j]? = some ro ∧ row' = List.zipWith max row ro), ?_, ?_⟩
    · refine ⟨_, rfl, t, g, _, 3, rfl, WA.T, by omega, by decide, by decide, fun HB d hb0 hb1 TB' kpB => ?_⟩
      have WB := WA.keep kpB TB'
      refine ⟨_, _, rfl, rfl, _, rfl, ite2 (fun c => ?_) (fun c => ?_)⟩
      · refine ⟨_, rfl, _, rfl, t, g, _, many, rfl, WB.T, by omega, by omega, by omega, fun HC oi hc0 hc1 TC' kpC => ?_⟩
        have WC := WB.keep kpC TC'
        obtain ⟨oj, eoj⟩ : ∃ oj : Nat, oi = (oj : Int) := ⟨oi.toNat, by omega⟩
        have hoj : oj < known.length := by omega
        obtain ⟨ro, hro⟩ := get_some hoj
        obtain ⟨ra, era, hra, mra⟩ := WC.row hrow
        obtain ⟨oa, eoa, hoa, moa⟩ := WC.row hro
        have hll : row.length = many := hrl _ (List.mem_of_getElem? hrow)
        have hol : ro.length = many := hrl _ (List.mem_of_getElem? hro)
        refine ⟨_, rfl, _, rfl, kn, _, _, _, rfl, rfl, SqL.of WC.hkn, at_of ewi mra, _, rfl, _, rfl, kn, _, _, _, rfl, rfl, SqL.of WC.hkn, at_of eoj moa, ra, oa, _, _, rfl, SqL.of hra, SqL.of hoa, fun D nD => ?_⟩
        refine lc_it (walk_zip (K := K) (a := ra) (b := oa) (xs := row.map V.int) (ys := ro.map V.int) (n := many) (by rw [List.length_map, List.length_map, hll, hol, Nat.min_self]))
          (fun i H' => Kp [D] HC H' ∧ Same HC H' ∧ H' D = some (.lst (((List.zipWith max row ro).take i).map V.int))) ⟨.new nD, same_new nD, upd_same⟩ (fun i H' _ h => ⟨h.2.1.seq (SqL.of hra), h.2.1.seq (SqL.of hoa)⟩) ?_ ?_
        · rintro i2 x HD HE hi2 ⟨kD, sD, hD⟩ ⟨T, x1, y1, rfl, nT, rfl, e1, e2⟩
          obtain ⟨z1, hz1, rfl⟩ := map_int_at e1
          obtain ⟨z2, hz2, rfl⟩ := map_int_at e2
          refine ⟨T, _, rfl, sqT upd_same, rfl, _, _, rfl, _, _, rfl, rfl, rfl, _, rfl, _, rfl, _, _, rfl, ?_⟩
          have nTD : T ≠ D := ne_new hD nT
          refine ⟨_, (upd_ne nTD.symm).trans hD, ?_, (kD.trans (.new nT)).trans (.set ((upd_ne nTD.symm).trans hD) (by simp)), fun b o e => ?_, ?_⟩
          · rw [List.length_map]
            exact small1000 (Nat.le_trans (List.length_take_le _ _) (by omega))
          · rw [upd_ne (ne_of_none e nD), upd_ne (ne_of_none (sD _ _ e) nT)]
            exact sD _ _ e
          · rw [upd_same, zip_take hz1 hz2, List.map_append, max_int]
            rfl
        · rintro HD ⟨kD, sD, hD⟩
          rw [List.take_of_length_le (by rw [List.length_zipWith]; omega)] at hD
          have nDH : H D = none := WC.kp.dm D nD
          have WD := WC.keep (H' := HD) (.of sD) (WC.T.same sD)
          have hjl : wi < (as.map V.ref).length := (List.getElem?_eq_some_iff.mp mra).1
          refine ⟨_, rfl, _, rfl, kn, _, who, wi, rfl, rfl, WD.hkn, ixN_of ewi hjl, ?_⟩
          refine ⟨_, rfl, as.set wi D, _, ?_, .inr ⟨oj, ro, hro, rfl⟩⟩
          rw [map_set_ref]
          refine (WD.put hD ?_ ?_ nDH).mono (by omega)
          · have q := WC.T.neT nD
            simp only [List.mem_cons, List.not_mem_nil, or_false, not_or] at q ⊢
            exact ⟨q.1, q.2, ne_new WC.hkn nD, ne_new WC.hac nD, ne_new WC.hm nD⟩
          · intro md
            obtain ⟨j, hj⟩ := List.getElem?_of_mem md
            obtain ⟨r, _, e⟩ := paired_at WC.rows hj
            rw [nD] at e
            cases e
      · refine ⟨v8, rfl, as, row, ?_, .inl rfl⟩
        have e : known.set wi row = known := by
          obtain ⟨hl, he⟩ := List.getElem?_eq_some_iff.mp hrow
          rw [← he, List.set_getElem_self]
        rw [e]
        exact WB.mono (by omega)
    · rintro σ HB ⟨v8, rfl, as, row', WB, hr'⟩
      have hl' : row'.length = many := by
        rcases hr' with rfl | ⟨j, ro, hj, rfl⟩
        · exact hrl _ (List.mem_of_getElem? hrow)
        · rw [List.length_zipWith, hrl _ (List.mem_of_getElem? hrow), hrl _ (List.mem_of_getElem? hj), Nat.min_self]
      obtain ⟨c, hc⟩ := get_some (l := row') (i := wi) (by omega)
      have hself : (known.set wi row')[wi]? = some row' := List.getElem?_set_self hwi
      obtain ⟨ra, era, hra, mra⟩ := WB.row hself
      refine ⟨_, rfl, .inl ⟨rfl, _, SqL.of WB.hac⟩, _, rfl, _, rfl, _, rfl, kn, _, _, _, rfl, rfl, SqL.of WB.hkn, at_of ewi mra, _, rfl, ra, _, _, _, rfl, rfl, SqL.of hra, at_of ewi (ints_at hc), _, _, rfl, rfl,
        _, rfl, _, rfl, kn, _, _, _, rfl, rfl, SqL.of WB.hkn, at_of ewi mra, ra, _, rfl, .inl ⟨SqL.of hra, fun n nn => ?_⟩⟩
      have W1 := WB.keep (.new (o := .tup (row'.map V.int)) nn) (WB.T.same (same_new nn))
      have hn1 : upd HB n (.tup (row'.map V.int)) n = _ := upd_same
      generalize upd HB n (.tup (row'.map V.int)) = H1 at W1 hn1
      refine ⟨_, rfl, _, rfl, _, rfl, _, rfl, t, g, m, _, who, many, ms, rfl, W1.T, by omega, ha0, ha1, by omega, W1.hm, W1.nm, mne, ml3, hok, fun H2 qa wt nq hq ok T2 kp2 => ?_⟩
      have W2 := W1.keep kp2 T2
      refine ⟨(by show 4 ≤ sizeLine; decide), fun p np => ?_⟩
      have k3 : Kp [t, g] H2 (upd H2 p (.tup [.int who, .int (c + 1), .ref n, .ref qa])) := .new np
      have W3 := W2.keep k3 (W2.T.same (same_new np))
      have hact : ActAt (upd H2 p (.tup [.int who, .int (c + 1), .ref n, .ref qa])) p ⟨(wi : Int), c + 1, row', wt⟩ := by
        refine ⟨n, qa, ?_, k3.tp _ _ (kp2.tp _ _ hn1), k3.tp _ _ hq⟩
        rw [upd_same, ewi]
      have hpl : (ps.map V.ref).length = i := by
        rw [List.length_map, paired_len W3.acts, hla]
      refine ⟨ac, _, _, rfl, rfl, W3.hac, by rw [hpl]; exact small1000 (by omega), ?_⟩
      have W4 := W3.app hact
      have hra4 : upd (upd H2 p (.tup [.int who, .int (c + 1), .ref n, .ref qa])) ac (.lst (ps.map V.ref ++ [.ref p])) ra = some (.lst (row'.map V.int)) := by
        obtain ⟨y, ey, e⟩ := paired_at W4.rows era
        rw [hself] at ey
        cases ey
        exact e
      refine ⟨_, rfl, _, rfl, kn, _, _, _, rfl, rfl, SqL.of W4.hkn, at_of ewi mra, _, rfl, ra, _, _, _, rfl, rfl, SqL.of hra4, at_of ewi (ints_at hc), _, _, rfl, rfl,
        _, rfl, _, rfl, kn, _, _, _, rfl, rfl, SqL.of W4.hkn, at_of ewi mra, _, rfl, ra, _, who, wi, rfl, rfl, hra4, ixN_of ewi (by rw [List.length_map]; omega), ?_⟩
      have W5 := W4.turn (row := row'.set wi (c + 1)) era hra4
      rw [List.set_set, List.map_set] at W5
      refine ⟨_, _, _, rfl, as, _, _, _, W5.mono (by omega), wd.step hrow hr' hc (by rw [← ewi]; exact ok), ?_⟩
      rw [List.length_append, hla]
      rfl
  · rintro σ H9 ⟨v6, v7, v8, rfl, as, ps, acts, known, W9, wd, hla⟩
    refine ⟨_, rfl, _, rfl, (by show 2 ≤ sizeLine; decide), fun r nr => ?_⟩
    have s9 : Same H9 (upd H9 r (.lst [.int (many : Int), .ref ac])) := same_new nr
    have W10 := W9.keep (.of s9) (W9.T.same s9)
    have hla2 : (acts.length : Int) ≤ most := by omega
    refine q _ r ac ps many acts known b1 b6 hla2 wd (W9.kp.dm r nr) nacH ?_ naT upd_same W10.hac W10.acts (W10.T.mono (by omega)) W10.kp
    have q := W9.T.neT nr
    simp only [List.mem_cons, List.not_mem_nil, or_false, not_or] at q ⊢
    exact ⟨q.1, q.2, ne_new W9.hac nr⟩
end
end FR

namespace FR
open PySem PySem.Spec PyProof.Rows L2
abbrev sMark : Stmt := top 5
abbrev sSize : Stmt := top 6
abbrev sSeen : Stmt := top 7
section
variable {P : Program} {w : World} {K : PySem.W.Frag} {mg : Str → Option Value} {base : Heap}
theorem scMark : FnScope ["deed"] ["deed"] (defScope sMark) := ⟨rfl, rfl, rfl, by decide +kernel, rfl, by decide +kernel, by decide +kernel⟩
theorem ok_mark {f : Addr} {fd : FuncData} {k : Nat} (F : Fun K "mark" "mark" sMark f fd) : FnOk P w K mg base CX0 (k + 1) f fd ["deed"] spMark := by
  refine F.ok scMark (fun vs H Q E h => ?_) (fun cdv A outer s H vs Q E hr h => ?_)
  · obtain ⟨p, a, rfl, _⟩ := h
    rfl
  obtain ⟨p, a, rfl, ⟨n, q, h1, h2, h3⟩, out⟩ := h
  refine ⟨_, pss_one (ps_ret (pe_tup (pa_cons (pe_ix ix_tup (pv 0) pe_int (fun _ _ => rfl)) (pa_cons (pe_ix ix_tup (pv 0) pe_int (fun _ _ => rfl)) pa_nil)))), ?_⟩
  exact ⟨_, rfl, p, _, _, _, rfl, rfl, sqT h1, atI_nat (j := 0) rfl, _, rfl, p, _, _, _, rfl, rfl, sqT h1, atI_nat (j := 1) rfl, (by show 2 ≤ sizeLine; decide), fun r nr => out r _ (same_new nr) nr upd_same⟩
theorem scSize : FnScope ["deed"] ["deed"] (defScope sSize) := ⟨rfl, rfl, rfl, by decide +kernel, rfl, by decide +kernel, by decide +kernel⟩
theorem ok_size {f : Addr} {fd : FuncData} {k : Nat} (F : Fun K "size" "size" sSize f fd) (B : Blt mg) : FnOk P w K mg base CX0 (k + 1) f fd ["deed"] spSize := by
  refine F.ok scSize (fun vs H Q E h => ?_) (fun cdv A outer s H vs Q E hr h => ?_)
  · obtain ⟨p, a, rfl, _⟩ := h
    rfl
  obtain ⟨p, a, rfl, ⟨n, q, h1, h2, h3⟩, out⟩ := h
  refine ⟨_, pss_one (ps_ret (pe_callB (cr_sumT rfl) (by rfl) B.sum (by decide +kernel) (pa_cons (pe_ix ix_tup (pv 0) pe_int (fun _ _ => rfl)) pa_nil))), ?_⟩
  exact ⟨_, rfl, p, _, _, _, rfl, rfl, sqT h1, atI_nat (j := 2) rfl, n, _, rfl, sqT h2, out⟩
theorem scSeen : FnScope ["deed", "mark", "author", "number", "note"] ["deed", "mark"] (defScope sSeen) := ⟨rfl, rfl, rfl, by decide +kernel, rfl, by decide +kernel, by decide +kernel⟩
theorem ok_seen {f : Addr} {fd : FuncData} {k : Nat} (F : Fun K "has_seen" "has_seen" sSeen f fd) (B : Blt mg) : FnOk P w K mg base CX0 (k + 1) f fd ["deed", "mark"] spSeen := by
  refine F.ok scSeen (fun vs H Q E h => ?_) (fun cdv A outer s H vs Q E hr h => ?_)
  · obtain ⟨p, m, a, o, k, rfl, _⟩ := h
    rfl
  obtain ⟨p, m, a, o, k, rfl, ⟨n, q, h1, h2, h3⟩, hm, out⟩ := h
  refine ⟨_, pss_cons (ps_asg (pv 1) (pg_tup rfl (pgs_cons (pg_name (i := 2) scSeen.nd rfl (.inl rfl)) (pgs_cons (pg_name (i := 3) scSeen.nd rfl (.inl rfl)) pgs_nil))))
    (pss_cons (ps_set (i := 4) scSeen.nd rfl (.inl rfl) (pe_ix ix_tup (pv 0) pe_int (fun _ _ => rfl)))
    (pss_one (ps_ret (pe_and (pe_chain op_le op_lt pe_int (pv 2) (pe_callB call_len_seq (by rfl) B.len PySem.boot_len (pa_cons (pv 4) pa_nil)))
      (pe_one (pe_chain op_le op_le pe_int (pv 3) (pe_ix ix_tup (pv 4) (pv 2) (fun _ _ => rfl)))))))), ?_⟩
  refine ⟨_, rfl, m, _, rfl, sqT hm, rfl, _, _, rfl, _, _, rfl, rfl, _, rfl, p, _, _, _, rfl, rfl, sqT h1, atI_nat (j := 2) rfl, ?_⟩
  refine ⟨_, rfl, _, _, rfl, rfl, _, rfl, ite2 (fun c => ?_) (fun c => ?_)⟩
  · have c1 : 0 ≤ o := of_decide_eq_true c
    refine ⟨_, rfl, n, _, rfl, .inr (sqT h2), _, _, rfl, rfl, _, rfl, ite2 (fun c2 => ?_) (fun c2 => ?_)⟩
    · have c2 : o < ((a.note.map V.int).length : Nat) := of_decide_eq_true c2
      rw [List.length_map] at c2
      have hj : o.toNat < a.note.length := by omega
      refine ⟨_, rfl, _, _, rfl, rfl, _, rfl, ite2 (fun c3 => ?_) (fun c3 => ?_)⟩
      · refine ⟨_, rfl, _, rfl, n, _, _, .int (a.note.getD o.toNat 0), rfl, rfl, sqT h2, at_of (j := o.toNat) (by omega) (ints_at (by simp [List.getD, hj])), _, _, rfl, rfl, ?_⟩
        have e : a.seen o k = decide (k ≤ a.note.getD o.toNat 0) := by
          unfold Act.seen
          rw [c, decide_eq_true c2, show decide (1 ≤ k) = true from c3]
          simp
        rw [e] at out
        exact out
      · have e : a.seen o k = false := by
          unfold Act.seen
          rw [show decide (1 ≤ k) = false from Bool.eq_false_iff.mpr c3]
          simp
        rw [e] at out
        exact out
    · have e : a.seen o k = false := by
        have c2 : decide (o < (((a.note.map V.int).length : Nat) : Int)) = false := Bool.eq_false_iff.mpr c2
        rw [List.length_map] at c2
        unfold Act.seen
        rw [c2]
        simp
      rw [e] at out
      exact out
  · have e : a.seen o k = false := by
      unfold Act.seen
      rw [show decide (0 ≤ o) = false from Bool.eq_false_iff.mpr c]
      simp
    rw [e] at out
    exact ⟨false, rfl, iteF out⟩
end
end FR

namespace FR
open PySem PySem.Spec PyProof.Rows L2 SrtO
abbrev sIn : Stmt := top 8
abbrev sPlace : Stmt := top 9
theorem iteND {c A B : Prop} [Decidable c] (hc : ¬ c) (h : A) : if (!decide c) = true then A else B := by
  rw [decide_eq_false hc]
  exact iteT h
section
variable {P : Program} {w : World} {K : PySem.W.Frag} {mg : Str → Option Value} {base : Heap}
theorem scPlace : FnScope ["deed", "author", "number"] ["deed"] (defScope sPlace) := ⟨rfl, rfl, rfl, by decide +kernel, rfl, by decide +kernel, by decide +kernel⟩
theorem ok_place {f fM fZ : Addr} {fd fdM fdZ : FuncData} {k : Nat} (F : Fun K "_place" "_place" sPlace f fd) (M : Cal P w K mg base k "mark" ["deed"] spMark fM fdM) (Z : Cal P w K mg base k "size" ["deed"] spSize fZ fdZ) : FnOk P w K mg base CX0 (k + 1) f fd ["deed"] spPlace := by
  refine F.ok scPlace (fun vs H Q E h => ?_) (fun cdv A outer s H vs Q E hr h => ?_)
  · obtain ⟨p, a, rfl, _⟩ := h
    rfl
  obtain ⟨p, a, rfl, ha, out⟩ := h
  refine ⟨_, pss_cons (ps_asg (pe_call M.ok hr (by rfl) M.m M.kp M.b .nil pass0 (pa_cons (pv 0) pa_nil)) (pg_tup rfl (pgs_cons (pg_name (i := 1) scPlace.nd rfl (.inl rfl)) (pgs_cons (pg_name (i := 2) scPlace.nd rfl (.inl rfl)) pgs_nil))))
    (pss_one (ps_ret (pe_tup (pa_cons (pe_call Z.ok hr (by rfl) Z.m Z.kp Z.b .nil pass0 (pa_cons (pv 0) pa_nil)) (pa_cons (pv 1) (pa_cons (pv 2) pa_nil)))))), ?_⟩
  refine ⟨_, rfl, p, a, rfl, ha, fun q H1 s1 nq eq => ?_⟩
  refine ⟨q, _, rfl, sqT eq, rfl, _, _, rfl, _, _, rfl, rfl, _, rfl, p, a, rfl, ha.keep (S := []) (.of s1), _, rfl, _, rfl, (by show 3 ≤ sizeLine; decide), fun r nr => ?_⟩
  exact out r _ (s1.trans (same_new nr)) (s1.free nr) upd_same
theorem scIn : FnScope ["deeds"] ["deeds"] (defScope sIn) := ⟨rfl, rfl, rfl, by decide +kernel, rfl, by decide +kernel, by decide +kernel⟩
theorem ok_in {f fP : Addr} {fd fdP : FuncData} {k : Nat} (F : Fun K "in_order" "in_order" sIn f fd) (Pl : Cal P w K mg base k "_place" ["deed"] spPlace fP fdP) (B : Blt mg) : FnOk P w K mg base CX0 (k + 3) f fd ["deeds"] (spIn K) := by
  refine F.ok scIn (fun vs H Q E h => ?_) (fun cdv A outer s H vs Q E hr h => ?_)
  · obtain ⟨l, ps, A, rfl, _⟩ := h
    rfl
  obtain ⟨l, ps, Am, rfl, hl, ha, out⟩ := h
  refine ⟨_, pss_one (ps_ret (pe_callBK (cr_sortedKey (E0 := fun _ _ _ => False) (Pl.ok.raw Pl.b .nil) hr (fun _ _ _ _ _ h => h)) (by rfl) B.sorted (by decide +kernel) (pa_cons (pv 0) pa_nil) (pk_cons (pe_glob (v := .ref fP) (by rfl) Pl.m rfl) pk_nil))), ?_⟩
  refine ⟨_, rfl, l, ps.map V.ref, fun x => (Am (refA x)).place, 3, rfl, rfl, hl, by decide, fun x m => ?_, fun x m => rfl, fun x m H' s' => ?_, fun ys p H' h1 h2 s' n1 n2 => ?_⟩
  · obtain ⟨p, _, rfl⟩ := List.mem_map.mp m
    exact ⟨p, rfl⟩
  · obtain ⟨p, mp, rfl⟩ := List.mem_map.mp m
    exact ⟨p, Am p, rfl, (ha p mp).1.keep (S := []) (.of s'), fun q H2 s2 nq eq => ⟨s2, q, rfl, eq⟩⟩
  · obtain ⟨qs, rfl, hp⟩ := perm_refs h2.perm
    exact out p qs _ (s'.trans (same_new n1)) n2 upd_same hp (List.pairwise_map.mp h1)
end
end FR

namespace FR
open PySem PySem.Spec PyProof.Rows L2 SrtO
abbrev sShuf : Stmt := top 20
def spShuf : Sp := fun vs H Q _ => ∃ (t g r : Addr) (N : Nat) (ps : List Addr) (A : Addr → Act), vs = [.ref t, .ref r] ∧ TrayAt H t g N ∧ N < 2 ^ 59 ∧ H r = some (.lst (ps.map V.ref)) ∧ Acts A H ps ∧ ps.length ≤ 1000 ∧
  ∀ (H' : Hp) (q : Addr) (qs : List Addr), H q = none → H' q = some (.lst (qs.map V.ref)) → qs.Perm ps → TrayAt H' t g (N + ps.length) → Kp [t, g] H H' → Q (.ref q) H'
theorem seq_ix {j : Int} {n : Nat} (h0 : 0 ≤ j) (h1 : j < (n : Int)) : seqIndex? j n = some j.toNat := by
  unfold seqIndex?
  have e1 : (if j < 0 then j + n else j) = j := if_neg (by omega)
  show (if (0 ≤ (if j < 0 then j + n else j) && (if j < 0 then j + n else j) < n) = true then some (if j < 0 then j + n else j).toNat else none) = _
  rw [e1, decide_eq_true h0, decide_eq_true h1]
  rfl
theorem erase_map {α β : Type} (f : α → β) : ∀ (l : List α) (i : Nat), (l.map f).eraseIdx i = (l.eraseIdx i).map f
  | [], _ => rfl
  | _ :: _, 0 => rfl
  | x :: l, i + 1 => by
    show f x :: (l.map f).eraseIdx i = f x :: (l.eraseIdx i).map f
    rw [erase_map f l i]
theorem erase_perm {α : Type} : ∀ (l : List α) (i : Nat) (x : α), l[i]? = some x → (x :: l.eraseIdx i).Perm l
  | [], _, _, h => by simp at h
  | y :: l, 0, x, h => by
    simp at h
    subst h
    exact List.Perm.refl _
  | y :: l, i + 1, x, h => by
    have q := erase_perm l i x (by simpa using h)
    show (x :: y :: l.eraseIdx i).Perm (y :: l)
    exact (List.Perm.swap y x _).trans (q.cons y)
section
variable {P : Program} {w : World} {K : PySem.W.Frag} {mg : Str → Option Value} {base : Heap}
theorem scShuf : FnScope ["tray", "rows", "left", "found"] ["tray", "rows"] (defScope sShuf) := ⟨rfl, rfl, rfl, by decide +kernel, rfl, by decide +kernel, by decide +kernel⟩
theorem ok_shuf {f fD : Addr} {fd fdD : FuncData} {k : Nat} (F : Fun K "_law_shuffled" "_law_shuffled" sShuf f fd) (D : DrawC P w K mg base k fD fdD) (B : Blt mg) : FnOk P w K mg base CX0 (k + 1) f fd ["tray", "rows"] spShuf := by
  refine F.ok scShuf (fun vs H Q E h => ?_) (fun cdv A outer s H vs Q E hr h => ?_)
  · obtain ⟨t, g, r, N, ps, A, rfl, _⟩ := h
    rfl
  obtain ⟨t, g, r, N, ps, Am, rfl, T, hN, hr0, ha, hps, out⟩ := h
  refine ⟨_, pss_cons (ps_set (i := 2) scShuf.nd rfl (.inl rfl) (pe_callTy call_list_of (by rfl) B.list (by decide +kernel) (pa_cons (pv 1) pa_nil)))
    (pss_cons (ps_set (i := 3) scShuf.nd rfl (.inl rfl) (pe_lst pa_nil))
    (C8.pss_cut (ps_while PassesOwn.never (pt_cmpR (op_neD hr.units) (pv 2) (pe_lst pa_nil) (nomark _))
      (pss_one (ps_expr (pe_bm PySem.F.plainAttrs_list PySem.F.slot_list_append PySem.F.type_list_append mt_append (pv 3) (pa_cons (pe_bm PySem.F.plainAttrs_list PySem.F.slot_list_pop PySem.F.type_list_pop mt_popAt (pv 2)
        (pa_cons (pe_call D.ok hr (by rfl) D.m D.kp D.b .nil pass0 (pa_cons (pv 0) (pa_cons (pe_callB call_len_seq (by rfl) B.len PySem.boot_len (pa_cons (pv 2) pa_nil)) pa_nil))) pa_nil)) pa_nil)))))
    (pss_one (ps_ret (pv 3))))), ?_⟩
  refine ⟨_, rfl, r, _, rfl, .inl (sqL hr0), fun l nl => ?_⟩
  refine ⟨Nat.zero_le _, fun f0 nf0 => ?_⟩
  have nlH : H l = none := nl
  have hl0 : upd (upd H l (.lst (ps.map V.ref))) f0 (.lst []) l = some (.lst (ps.map V.ref)) := upd_at upd_same nf0
  have hf0 : upd (upd H l (.lst (ps.map V.ref))) f0 (.lst []) f0 = some (.lst []) := upd_same
  have nfl : f0 ≠ l := ne_new upd_same nf0
  have nf : H f0 = none := (same_new nl).free nf0
  have T0 := (T.same (same_new (o := .lst (ps.map V.ref)) nl)).same (same_new (o := .lst []) nf0)
  have k0 : Kp [t, g] H (upd (upd H l (.lst (ps.map V.ref))) f0 (.lst [])) := (Kp.new nl).trans (.new nf0)
  have nlT := T.neT nlH
  have nfT := T.neT nf
  generalize upd (upd H l (.lst (ps.map V.ref))) f0 (.lst []) = H0 at hl0 hf0 T0 k0 ⊢
  refine ⟨fun σ H' => σ = [some (.ref t), some (.ref r), some (.ref l), some (.ref f0)] ∧ ∃ fs : List Addr, H' f0 = some (.lst (fs.map V.ref)) ∧ fs.Perm ps ∧ TrayAt H' t g (N + ps.length) ∧ Kp [t, g] H H', ?_, ?_⟩
  · refine ⟨fun m σ H' => σ = [some (.ref t), some (.ref r), some (.ref l), some (.ref f0)] ∧ ∃ fs ls : List Addr, m = ls.length ∧ H' l = some (.lst (ls.map V.ref)) ∧ H' f0 = some (.lst (fs.map V.ref)) ∧ (fs ++ ls).Perm ps ∧ TrayAt H' t g (N + fs.length) ∧ Kp [t, g] H H',
      ⟨_, rfl, [], ps, rfl, hl0, hf0, List.Perm.refl _, T0, k0⟩, ?_⟩
    rintro m σ H1 ⟨rfl, fs, ls, rfl, hl1, hf1, hp, T1, k1⟩
    have hlen : fs.length + ls.length = ps.length := by rw [← List.length_append, hp.length_eq]
    have als : Acts Am H1 ls := (ha.sub fun q m => hp.mem_iff.mp (List.mem_append_right _ m)).keep k1
    refine ⟨_, rfl, Nat.zero_le _, fun z nz => ?_⟩
    have sz := same_new (o := .lst []) nz
    refine ⟨decks Am ls, .list [], (als.keep (S := []) (.of sz)).deck (sz _ _ hl1), .lst (sqL upd_same) .nil, decks_shaped als.fit, by decide +kernel, _, rfl, ?_⟩
    rw [decks_nil]
    have k2 : Kp [t, g] H _ := k1.trans (.new (o := .lst []) nz)
    have T2 := T1.same sz
    have hl2 := sz _ _ hl1
    have hf2 := sz _ _ hf1
    generalize upd H1 z (.lst []) = H2 at sz k2 T2 hl2 hf2 ⊢
    cases ls with
    | nil =>
      rw [List.append_nil] at hp
      exact iteF ⟨rfl, fs, hf2, hp, T2.mono (by rw [hp.length_eq]; exact Nat.le_refl _), k2⟩
    | cons p r0 =>
      refine iteT ⟨fun σ H' => σ = [some (.ref t), some (.ref r), some (.ref l), some (.ref f0)] ∧ ∃ fs' ls' : List Addr, ls'.length < (p :: r0).length ∧ H' l = some (.lst (ls'.map V.ref)) ∧ H' f0 = some (.lst (fs'.map V.ref)) ∧ (fs' ++ ls').Perm ps ∧ TrayAt H' t g (N + fs'.length) ∧ Kp [t, g] H H', ?_, ?_⟩
      · rintro σ' H' ⟨e, fs', ls', hlt, q⟩
        exact ⟨_, hlt, e, fs', ls', rfl, q⟩
      · have hpos : 0 < (p :: r0).length := Nat.succ_pos _
        generalize p :: r0 = ls at hl2 hp hlen als hpos ⊢
        refine ⟨_, rfl, .inl ⟨rfl, _, SqL.of hf2⟩, _, rfl, .inl ⟨rfl, _, SqL.of hl2⟩, _, rfl, _, rfl, l, _, rfl, .inl (SqL.of hl2), t, g, _, (ls.length : Int), (by rw [List.length_map]; rfl), T2, by omega, by omega, by omega, fun H3 j j0 j1 T3 k3 => ?_⟩
        have hl3 := k3.lst hl2 nlT
        have hf3 := k3.lst hf2 nfT
        have hj : j.toNat < ls.length := by omega
        obtain ⟨x, hx⟩ := get_some hj
        refine ⟨l, _, j, j.toNat, .ref x, rfl, rfl, hl3, by omega, by omega, (by rw [List.length_map]; exact seq_ix j0 j1), (by rw [List.getElem?_map, hx]; rfl), ?_⟩
        rw [erase_map]
        have hf4 : upd H3 l (.lst ((ls.eraseIdx j.toNat).map V.ref)) f0 = _ := (upd_ne nfl).trans hf3
        have hl4 : upd H3 l (.lst ((ls.eraseIdx j.toNat).map V.ref)) l = _ := upd_same
        refine ⟨f0, _, _, rfl, rfl, hf4, ?_, ?_⟩
        · rw [List.length_map]
          exact small1000 (by omega)
        · have hle : (ls.eraseIdx j.toNat).length + 1 = ls.length := by rw [List.length_eraseIdx_of_lt hj]; omega
          refine ⟨rfl, fs ++ [x], ls.eraseIdx j.toNat, by omega, (upd_ne nfl.symm).trans hl4, ?_, ?_, (((T3.over nlT).over nfT).mono (by rw [List.length_append, List.length_singleton]; omega)), ((k2.trans k3).over nlH).over nf⟩
          · rw [upd_same, List.map_append]
            rfl
          · rw [List.append_assoc]
            exact (((erase_perm ls j.toNat x hx).append_left fs)).trans hp
  · rintro σ H1 ⟨rfl, fs, hf1, hp, T1, k1⟩
    exact ⟨_, rfl, out _ _ _ nf hf1 hp T1 k1⟩
end
end FR

/-! What is true of the deeds of a world. -/
namespace FR
open PySem PySem.Spec PyProof.Rows L2
theorem zip_get {f : Int → Int → Int} {r s : List Int} {i : Nat} {x : Int} (h : (List.zipWith f r s)[i]? = some x) : ∃ a b, r[i]? = some a ∧ s[i]? = some b ∧ x = f a b := by
  rw [List.getElem?_zipWith] at h
  cases h1 : r[i]? with
  | none => rw [h1] at h; simp at h
  | some a =>
    cases h2 : s[i]? with
    | none => rw [h1, h2] at h; simp at h
    | some b =>
      rw [h1, h2] at h
      exact ⟨a, b, rfl, rfl, (Option.some.inj h).symm⟩
theorem snoc_nodup {α : Type} {l : List α} {x : α} (h : l.Nodup) (n : x ∉ l) : (l ++ [x]).Nodup := by
  rw [List.nodup_append]
  refine ⟨h, by simp, fun y my z mz => ?_⟩
  rw [List.mem_singleton.mp mz]
  exact fun e => n (e ▸ my)
/-- each deed's author knows of it -/
theorem Wd.own {many : Nat} {acts : List Act} {known : List (List Int)} (h : Wd many acts known) :
    (∀ a ∈ acts, ∃ (i : Nat) (r : List Int) (y : Int), a.who = (i : Int) ∧ known[i]? = some r ∧ r[i]? = some y ∧ a.num ≤ y) ∧ (acts.map Act.mark).Nodup := by
  induction h with
  | nil => exact ⟨fun a m => by simp at m, by simp⟩
  | @step acts known i row row' c wt w hi hr hc ok ih =>
    obtain ⟨ih1, ih2⟩ := ih
    have hil : i < known.length := (List.getElem?_eq_some_iff.mp hi).1
    have hcl : i < row'.length := (List.getElem?_eq_some_iff.mp hc).1
    have ge : ∀ y, row[i]? = some y → y ≤ c := fun y hy => by
      rcases hr with rfl | ⟨j, ro, hj, rfl⟩
      · rw [hc] at hy
        cases hy
        exact Int.le_refl _
      · obtain ⟨a, b, h1, h2, e⟩ := zip_get hc
        rw [h1] at hy
        cases hy
        omega
    have hn : (known.set i (row'.set i (c + 1)))[i]? = some (row'.set i (c + 1)) := by rw [List.getElem?_set_self hil]
    have hn2 : (row'.set i (c + 1))[i]? = some (c + 1) := by rw [List.getElem?_set_self hcl]
    refine ⟨fun a m => ?_, ?_⟩
    · rcases List.mem_append.mp m with m | m
      · obtain ⟨k, r, y, e, hk, hy, le⟩ := ih1 a m
        by_cases ki : k = i
        · subst ki
          rw [hi] at hk
          cases hk
          exact ⟨k, _, c + 1, e, hn, hn2, by have := ge y hy; omega⟩
        · exact ⟨k, r, y, e, by rw [List.getElem?_set_ne (fun z => ki z.symm)]; exact hk, hy, le⟩
      · rw [List.mem_singleton.mp m]
        exact ⟨i, _, c + 1, rfl, hn, hn2, Int.le_refl _⟩
    · rw [List.map_append]
      refine snoc_nodup ih2 fun m => ?_
      obtain ⟨a, ma, ea⟩ := List.mem_map.mp m
      obtain ⟨k, r, y, e, hk, hy, le⟩ := ih1 a ma
      have e1 : a.who = (i : Int) := congrArg Prod.fst ea
      have e2 : a.num = c + 1 := congrArg Prod.snd ea
      have ki : k = i := by omega
      subst ki
      rw [hi] at hk
      cases hk
      have := ge y hy
      omega
end FR

/-! Worlds: what a deed has seen, how many. -/
namespace FR
open PySem PySem.Spec PyProof.Rows L2
/-- r is nowhere above s -/
def Le (r s : List Int) : Prop := ∀ (y : Nat) (a b : Int), r[y]? = some a → s[y]? = some b → a ≤ b
/-- the number of the deeds of each -/
def diag (known : List (List Int)) (i : Nat) : Int := (known.getD i []).getD i 0
theorem diag_of {known : List (List Int)} {i : Nat} {r : List Int} {c : Int} (h : known[i]? = some r) (hc : r[i]? = some c) : diag known i = c := by
  unfold diag
  simp [List.getD, h, hc]
/-- b is among those that a cut at r has -/
def inCut (r : List Int) (b : Act) : Bool := decide (b.num ≤ r.getD b.who.toNat 0)
theorem getD_of {r : List Int} {i : Nat} {c : Int} (h : r[i]? = some c) : r.getD i 0 = c := by simp [List.getD, h]
theorem sum_set : ∀ (r : List Int) (i : Nat) (x c : Int), r[i]? = some x → (r.set i c).sum = r.sum - x + c
  | [], _, _, _, h => by simp at h
  | y :: r, 0, x, c, h => by
    simp at h
    subst h
    rw [List.set_cons_zero, List.sum_cons, List.sum_cons]
    omega
  | y :: r, i + 1, x, c, h => by
    have q := sum_set r i x c (by simpa using h)
    rw [List.set_cons_succ, List.sum_cons, List.sum_cons, q]
    omega
theorem getD_set_ne {r : List Int} {i j : Nat} {c : Int} (h : i ≠ j) : (r.set i c).getD j 0 = r.getD j 0 := by
  unfold List.getD
  rw [List.getElem?_set_ne h]
theorem getD_set_self {r : List Int} {i : Nat} {c : Int} (h : i < r.length) : (r.set i c).getD i 0 = c := by
  unfold List.getD
  rw [List.getElem?_set_self h]
  rfl
structure WorldOk (many : Nat) (acts : List Act) (known : List (List Int)) : Prop where
  /-- nobody knows more of a member than itself -/
  top : ∀ (j : Nat) (r : List Int) (i : Nat) (x : Int), known[j]? = some r → r[i]? = some x → x ≤ diag known i
  pos : ∀ (i : Nat), 0 ≤ diag known i
  act : ∀ a ∈ acts, ∃ i : Nat, a.who = (i : Int) ∧ i < many ∧ 1 ≤ a.num ∧ a.num ≤ diag known i ∧ a.note[i]? = some (a.num - 1)
  le : ∀ a ∈ acts, ∀ (i : Nat) (x : Int), a.note[i]? = some x → x ≤ diag known i
  /-- rows are closed -/
  cl : ∀ (j : Nat) (r : List Int), known[j]? = some r → ∀ b ∈ acts, b.num ≤ r.getD b.who.toNat 0 → Le b.note r
  cla : ∀ a ∈ acts, ∀ b ∈ acts, b.num ≤ a.note.getD b.who.toNat 0 → Le b.note a.note
  cnt : ∀ r : List Int, r.length = many → (∀ (i : Nat) (x : Int), r[i]? = some x → 0 ≤ x ∧ x ≤ diag known i) → ((acts.countP (inCut r) : Nat) : Int) = r.sum
theorem sum_zero : ∀ n : Nat, (List.replicate n (0 : Int)).sum = 0
  | 0 => rfl
  | n + 1 => by rw [List.replicate_succ, List.sum_cons, sum_zero n]; rfl
theorem diag_zero {n i : Nat} : diag (List.replicate n (List.replicate n (0 : Int))) i = 0 := by
  unfold diag List.getD
  by_cases h : i < n
  · rw [List.getElem?_replicate, if_pos h]
    show ((List.replicate n (0 : Int))[i]?).getD 0 = 0
    rw [List.getElem?_replicate, if_pos h]
    rfl
  · rw [List.getElem?_replicate, if_neg h]
    rfl
theorem all_zero : ∀ (r : List Int), (∀ x ∈ r, x = 0) → r.sum = 0
  | [], _ => rfl
  | x :: r, h => by
    rw [List.sum_cons, all_zero r fun y m => h y (List.mem_cons_of_mem _ m), h x (List.mem_cons_self ..)]
    rfl
theorem Wd.world {many : Nat} {acts : List Act} {known : List (List Int)} (h : Wd many acts known) : WorldOk many acts known := by
  induction h with
  | nil =>
    refine ⟨fun j r i x hj hx => ?_, fun i => ?_, fun a m => by simp at m, fun a m => by simp at m, fun j r hj b m => by simp at m, fun a m => by simp at m, fun r hl hb => ?_⟩
    · rw [diag_zero]
      have q := List.mem_of_getElem? hj
      have q2 := List.mem_of_getElem? hx
      rw [(List.mem_replicate.mp q).2] at q2
      rw [(List.mem_replicate.mp q2).2]
      exact Int.le_refl 0
    · rw [diag_zero]
      exact Int.le_refl 0
    · rw [List.countP_nil]
      symm
      refine all_zero r fun x mx => ?_
      obtain ⟨i, hi⟩ := List.getElem?_of_mem mx
      have q := hb i x hi
      rw [diag_zero] at q
      omega
  | @step acts known i row row' c wt w hi hr hc ok ih =>
    have lens := w.lens
    have nn := w.nonneg
    have hil : i < known.length := (List.getElem?_eq_some_iff.mp hi).1
    have him : i < many := by rw [← lens.1]; exact hil
    have hrl : row'.length = many := by
      rcases hr with rfl | ⟨j, ro, hj, rfl⟩
      · exact lens.2 _ (List.mem_of_getElem? hi)
      · rw [List.length_zipWith, lens.2 _ (List.mem_of_getElem? hi), lens.2 _ (List.mem_of_getElem? hj), Nat.min_self]
    have hn0 : ∀ x ∈ row', 0 ≤ x := by
      rcases hr with rfl | ⟨j, ro, hj, rfl⟩
      · exact nn _ (List.mem_of_getElem? hi)
      · exact zipWith_nonneg (nn _ (List.mem_of_getElem? hi)) (nn _ (List.mem_of_getElem? hj))
    -- the row that it does its deed by is below the diagonal, at i just there, and closed
    have htop : ∀ (k : Nat) (x : Int), row'[k]? = some x → x ≤ diag known k := fun k x hx => by
      rcases hr with rfl | ⟨j, ro, hj, rfl⟩
      · exact ih.top i _ k x hi hx
      · obtain ⟨a, b, h1, h2, e⟩ := zip_get hx
        have q1 := ih.top i _ k a hi h1
        have q2 := ih.top j _ k b hj h2
        omega
    obtain ⟨c0, hc0⟩ := get_some (show i < row.length by rw [lens.2 _ (List.mem_of_getElem? hi)]; exact him)
    have ed : diag known i = c0 := diag_of hi hc0
    have ec : c = diag known i := by
      have q1 := htop i c hc
      have q2 : c0 ≤ c := by
        rcases hr with rfl | ⟨j, ro, hj, rfl⟩
        · rw [hc0] at hc
          cases hc
          exact Int.le_refl _
        · obtain ⟨a, b, h1, h2, e⟩ := zip_get hc
          rw [hc0] at h1
          cases h1
          omega
      omega
    have hcl : ∀ b ∈ acts, b.num ≤ row'.getD b.who.toNat 0 → Le b.note row' := fun b mb hb => by
      rcases hr with rfl | ⟨j, ro, hj, rfl⟩
      · exact ih.cl i _ hi b mb hb
      · obtain ⟨k, ek, hk, _, _, _⟩ := ih.act b mb
        have e2 : b.who.toNat = k := by omega
        rw [e2] at hb
        obtain ⟨x, hx⟩ := get_some (show k < (List.zipWith max row ro).length by rw [hrl]; exact hk)
        rw [getD_of hx] at hb
        obtain ⟨x1, x2, h1, h2, e⟩ := zip_get hx
        intro y z z' hz hz'
        obtain ⟨y1, y2, g1, g2, e3⟩ := zip_get hz'
        rcases Int.le_total x2 x1 with le | le
        · have q := ih.cl i _ hi b mb (by rw [e2, getD_of h1]; omega) y z y1 hz g1
          omega
        · have q := ih.cl j _ hj b mb (by rw [e2, getD_of h2]; omega) y z y2 hz g2
          omega
    have dself : diag (known.set i (row'.set i (c + 1))) i = c + 1 := diag_of (List.getElem?_set_self hil) (List.getElem?_set_self (by rw [hrl]; exact him))
    have dne : ∀ k, k ≠ i → diag (known.set i (row'.set i (c + 1))) k = diag known k := fun k h => by
      unfold diag List.getD
      rw [List.getElem?_set_ne (fun z => h z.symm)]
    have dge : ∀ k, diag known k ≤ diag (known.set i (row'.set i (c + 1))) k := fun k => by
      by_cases h : k = i
      · rw [h, dself]
        omega
      · rw [dne k h]
        exact Int.le_refl _
    have c0' : 0 ≤ c := by rw [ec]; exact ih.pos i
    -- a deed of before is in no cut that the new one's number needs
    have hnum : ∀ b ∈ acts, b.who = (i : Int) → b.num ≤ c := fun b mb e => by
      obtain ⟨k, ek, hk, _, h2, _⟩ := ih.act b mb
      have : k = i := by omega
      subst this
      omega
    have newLe : ∀ r : List Int, (∀ (k : Nat) (x : Int), r[k]? = some x → x ≤ diag known k) → ¬ (c + 1 ≤ r.getD i 0) := fun r hr2 le => by
      cases e : r[i]? with
      | none => simp [List.getD, e] at le; omega
      | some x =>
        rw [getD_of e] at le
        have := hr2 i x e
        omega
    refine ⟨fun j r k x hj hx => ?_, fun k => Int.le_trans (ih.pos k) (dge k), fun a ma => ?_, fun a ma k x hx => ?_, fun j r hj b mb hb => ?_, fun a ma b mb hb => ?_, fun r hl hb => ?_⟩
    · by_cases ji : j = i
      · subst ji
        rw [List.getElem?_set_self hil] at hj
        cases hj
        by_cases ki : k = j
        · subst ki
          rw [List.getElem?_set_self (by rw [hrl]; exact him)] at hx
          cases hx
          rw [dself]
          exact Int.le_refl _
        · rw [List.getElem?_set_ne (fun z => ki z.symm)] at hx
          exact Int.le_trans (htop k x hx) (dge k)
      · rw [List.getElem?_set_ne (fun z => ji z.symm)] at hj
        exact Int.le_trans (ih.top j r k x hj hx) (dge k)
    · rcases List.mem_append.mp ma with ma | ma
      · obtain ⟨k, ek, hk, h1, h2, h3⟩ := ih.act a ma
        exact ⟨k, ek, hk, h1, Int.le_trans h2 (dge k), h3⟩
      · rw [List.mem_singleton.mp ma]
        exact ⟨i, rfl, him, by show 1 ≤ c + 1; omega, by rw [dself]; exact Int.le_refl _, by show row'[i]? = some (c + 1 - 1); rw [hc]; congr 1; omega⟩
    · rcases List.mem_append.mp ma with ma | ma
      · exact Int.le_trans (ih.le a ma k x hx) (dge k)
      · rw [List.mem_singleton.mp ma] at hx
        exact Int.le_trans (htop k x hx) (dge k)
    · rcases List.mem_append.mp mb with m2 | mb
      · by_cases ji : j = i
        · subst ji
          rw [List.getElem?_set_self hil] at hj
          cases hj
          obtain ⟨k, ek, hk, h1, h2, h3⟩ := ih.act b m2
          have e2 : b.who.toNat = k := by omega
          have hb' : b.num ≤ row'.getD b.who.toNat 0 := by
            rw [e2] at hb ⊢
            by_cases kj : k = j
            · subst kj
              rw [getD_of hc]
              exact hnum b m2 ek
            · rw [getD_set_ne (fun z => kj z.symm)] at hb
              exact hb
          have q := hcl b m2 hb'
          intro y z z' hz hz'
          by_cases yj : y = j
          · subst yj
            rw [List.getElem?_set_self (by rw [hrl]; exact him)] at hz'
            cases hz'
            have := q y z c hz hc
            omega
          · rw [List.getElem?_set_ne (fun z => yj z.symm)] at hz'
            exact q y z z' hz hz'
        · rw [List.getElem?_set_ne (fun z => ji z.symm)] at hj
          exact ih.cl j r hj b m2 hb
      · rw [List.mem_singleton.mp mb] at hb ⊢
        by_cases ji : j = i
        · subst ji
          rw [List.getElem?_set_self hil] at hj
          cases hj
          intro y z z' hz hz'
          by_cases yj : y = j
          · subst yj
            rw [List.getElem?_set_self (by rw [hrl]; exact him)] at hz'
            cases hz'
            have hz2 : row'[y]? = some z := hz
            rw [hc] at hz2
            cases hz2
            omega
          · rw [List.getElem?_set_ne (fun z => yj z.symm)] at hz'
            have hz2 : row'[y]? = some z := hz
            rw [hz2] at hz'
            cases hz'
            exact Int.le_refl _
        · rw [List.getElem?_set_ne (fun z => ji z.symm)] at hj
          exact absurd (show c + 1 ≤ r.getD i 0 from hb) (newLe r fun k x hx => ih.top j r k x hj hx)
    · rcases List.mem_append.mp ma with ma | ma
      · rcases List.mem_append.mp mb with mb | mb
        · exact ih.cla a ma b mb hb
        · rw [List.mem_singleton.mp mb] at hb
          exact absurd (show c + 1 ≤ a.note.getD i 0 from hb) (newLe a.note fun k x hx => ih.le a ma k x hx)
      · rw [List.mem_singleton.mp ma] at hb ⊢
        rcases List.mem_append.mp mb with mb | mb
        · exact hcl b mb hb
        · rw [List.mem_singleton.mp mb] at hb
          exact absurd (show c + 1 ≤ row'.getD i 0 from hb) (newLe row' htop)
    · rw [List.countP_append]
      obtain ⟨x, hx⟩ := get_some (show i < r.length by rw [hl]; exact him)
      have bx := hb i x hx
      rw [dself] at bx
      have one : ([(⟨i, c + 1, row', wt⟩ : Act)].countP (inCut r) : Nat) = if c + 1 ≤ x then 1 else 0 := by
        rw [List.countP_cons, List.countP_nil]
        have e : inCut r (⟨i, c + 1, row', wt⟩ : Act) = decide (c + 1 ≤ x) := by
          unfold inCut
          show decide (c + 1 ≤ r.getD ((i : Int).toNat) 0) = _
          rw [Int.toNat_natCast, getD_of hx]
        rw [e]
        by_cases h : c + 1 ≤ x
        · simp [h]
        · simp [h]
      rw [one]
      by_cases h : c + 1 ≤ x
      · rw [if_pos h]
        have q := ih.cnt (r.set i c) (by rw [List.length_set]; exact hl) fun k y hy => by
          by_cases ki : k = i
          · subst ki
            rw [List.getElem?_set_self (by rw [hl]; exact him)] at hy
            cases hy
            omega
          · rw [List.getElem?_set_ne (fun z => ki z.symm)] at hy
            have q := hb k y hy
            rw [dne k ki] at q
            exact q
        have e : acts.countP (inCut r) = acts.countP (inCut (r.set i c)) := by
          refine List.countP_congr fun b mb => ?_
          obtain ⟨k, ek, hk, h1, h2, h3⟩ := ih.act b mb
          have e2 : b.who.toNat = k := by omega
          unfold inCut
          rw [e2]
          by_cases ki : k = i
          · subst ki
            rw [getD_set_self (by rw [hl]; exact him), getD_of hx]
            have := hnum b mb ek
            simp only [decide_eq_true_eq]
            omega
          · rw [getD_set_ne (fun z => ki z.symm)]
        rw [e]
        rw [sum_set r i x c hx] at q
        push_cast
        omega
      · rw [if_neg h]
        have q := ih.cnt r hl fun k y hy => by
          by_cases ki : k = i
          · subst ki
            rw [hx] at hy
            cases hy
            omega
          · have q := hb k y hy
            rw [dne k ki] at q
            exact q
        push_cast
        omega
end FR

/-! Seeing, among the deeds of a world that lie in lists. -/
namespace FR
open PySem PySem.Spec PyProof.Rows L2 SrtO
theorem le_sum : ∀ {r s : List Int}, r.length = s.length → Le r s → r.sum ≤ s.sum
  | [], [], _, _ => Int.le_refl _
  | [], _ :: _, h, _ => nomatch h
  | _ :: _, [], h, _ => nomatch h
  | x :: r, y :: s, h, le => by
    have q := le_sum (r := r) (s := s) (Nat.succ.inj h) fun i a b h1 h2 => le (i + 1) a b (by simpa using h1) (by simpa using h2)
    have q2 := le 0 x y rfl rfl
    rw [List.sum_cons, List.sum_cons]
    omega
theorem lt_sum : ∀ {r s : List Int} (k : Nat) (x y : Int), r.length = s.length → Le r s → r[k]? = some x → s[k]? = some y → x < y → r.sum < s.sum
  | [], _, k, x, y, _, _, h, _, _ => by simp at h
  | _ :: _, [], _, _, _, h, _, _, _, _ => nomatch h
  | a :: r, b :: s, 0, x, y, h, le, h1, h2, lt => by
    simp at h1 h2
    subst h1 h2
    have q := le_sum (r := r) (s := s) (Nat.succ.inj h) fun i a b h1 h2 => le (i + 1) a b (by simpa using h1) (by simpa using h2)
    rw [List.sum_cons, List.sum_cons]
    omega
  | a :: r, b :: s, k + 1, x, y, h, le, h1, h2, lt => by
    have q := lt_sum (r := r) (s := s) k x y (Nat.succ.inj h) (fun i a b h1 h2 => le (i + 1) a b (by simpa using h1) (by simpa using h2)) (by simpa using h1) (by simpa using h2) lt
    have q2 := le 0 a b rfl rfl
    rw [List.sum_cons, List.sum_cons]
    omega
/-- one has seen the other one -/
def Act.sees (a b : Act) : Bool := a.seen b.who b.num
/-- deeds of a world: what is used of them -/
structure Wide (many : Nat) (as : List Act) : Prop where
  len : ∀ a ∈ as, a.note.length = many
  pos : ∀ a ∈ as, ∀ x ∈ a.note, 0 ≤ x
  act : ∀ a ∈ as, ∃ i : Nat, a.who = (i : Int) ∧ i < many ∧ 1 ≤ a.num ∧ a.note[i]? = some (a.num - 1)
  cl : ∀ a ∈ as, ∀ b ∈ as, b.num ≤ a.note.getD b.who.toNat 0 → Le b.note a.note
theorem Wide.perm {many : Nat} {as bs : List Act} (h : Wide many as) (k : ∀ b ∈ bs, b ∈ as) : Wide many bs :=
  ⟨fun a m => h.len a (k a m), fun a m => h.pos a (k a m), fun a m => h.act a (k a m), fun a m b mb => h.cl a (k a m) b (k b mb)⟩
theorem Wd.wide {many : Nat} {acts : List Act} {known : List (List Int)} (h : Wd many acts known) : Wide many acts :=
  ⟨fun a m => (h.plain a m).1, fun a m => (h.plain a m).2.1, fun a m => by
    obtain ⟨i, e, hi, h1, _, h3⟩ := h.world.act a m
    exact ⟨i, e, hi, h1, h3⟩, h.world.cla⟩
section
variable {many : Nat} {as : List Act} {a b c : Act}
theorem Wide.sees_iff (W : Wide many as) (ha : a ∈ as) (hb : b ∈ as) : a.sees b = inCut a.note b := by
  obtain ⟨i, e, hi, h1, _⟩ := W.act b hb
  unfold Act.sees Act.seen inCut
  rw [W.len a ha, decide_eq_true (show (0 : Int) ≤ b.who by omega), decide_eq_true (show b.who < (many : Int) by omega), decide_eq_true h1]
  rfl
theorem Wide.sees_le (W : Wide many as) (ha : a ∈ as) (hb : b ∈ as) (h : a.sees b = true) : Le b.note a.note := by
  rw [W.sees_iff ha hb] at h
  exact W.cl a ha b hb (of_decide_eq_true h)
theorem Wide.sees_size (W : Wide many as) (ha : a ∈ as) (hb : b ∈ as) (h : a.sees b = true) : b.note.sum < a.note.sum := by
  have le := W.sees_le ha hb h
  rw [W.sees_iff ha hb] at h
  have h := of_decide_eq_true h
  obtain ⟨i, e, hi, h1, h2⟩ := W.act b hb
  have e2 : b.who.toNat = i := by omega
  rw [e2] at h
  obtain ⟨y, hy⟩ := get_some (show i < a.note.length by rw [W.len a ha]; exact hi)
  rw [getD_of hy] at h
  exact lt_sum i _ y (by rw [W.len a ha, W.len b hb]) le h2 hy (by omega)
theorem Wide.sees_trans (W : Wide many as) (ha : a ∈ as) (hb : b ∈ as) (hc : c ∈ as) (h : a.sees b = true) (k : b.sees c = true) : a.sees c = true := by
  have le := W.sees_le ha hb h
  rw [W.sees_iff ha hc]
  rw [W.sees_iff hb hc] at k
  have k := of_decide_eq_true k
  obtain ⟨i, e, hi, h1, h2⟩ := W.act c hc
  have e2 : c.who.toNat = i := by omega
  unfold inCut
  rw [e2] at k ⊢
  obtain ⟨y, hy⟩ := get_some (show i < b.note.length by rw [W.len b hb]; exact hi)
  obtain ⟨z, hz⟩ := get_some (show i < a.note.length by rw [W.len a ha]; exact hi)
  rw [getD_of hy] at k
  rw [getD_of hz]
  have := le i y z hy hz
  exact decide_eq_true (by omega)
/-- of one author the one that isn't greater is the same or seen -/
theorem Wide.own_sees (W : Wide many as) (ha : a ∈ as) (hb : b ∈ as) (e : b.who = a.who) (ne : b.mark ≠ a.mark) (lt : HT.lexLt b.place a.place = true) : a.sees b = true := by
  obtain ⟨i, ea, hi, h1, h2⟩ := W.act a ha
  obtain ⟨j, eb, hj, k1, k2⟩ := W.act b hb
  have eij : j = i := by omega
  subst eij
  have e2 : b.who.toNat = j := by omega
  rw [W.sees_iff ha hb]
  unfold inCut
  rw [e2, getD_of h2]
  refine decide_eq_true ?_
  refine Int.not_lt.mp fun gt => ?_
  have nn : b.num ≠ a.num := fun z => ne (Prod.ext e z)
  have s : b.sees a = true := by
    rw [W.sees_iff hb ha]
    unfold inCut
    have e3 : a.who.toNat = j := by omega
    rw [e3, getD_of k2]
    exact decide_eq_true (by omega)
  have q := W.sees_size hb ha s
  unfold Act.place at lt
  rw [HT.lexLt_cons, if_neg (by omega), decide_eq_true_eq] at lt
  omega
end
end FR

/-! Lists of deeds of unlike marks, in order. -/
namespace FR
open PySem PySem.Spec PyProof.Rows L2 SrtO
/-- a list of deeds of unlike marks -/
def Dk (n : Nat) (H : Hp) (x : Addr) : Prop := ∃ (ps : List Addr) (A : Addr → Act), H x = some (.lst (ps.map V.ref)) ∧ Acts A H ps ∧ (ps.map fun p => (A p).mark).Nodup ∧ ps.length ≤ n
theorem Dk.keep {n : Nat} {S : List Addr} {H H' : Hp} {x : Addr} (h : Dk n H x) (k : Kp S H H') (m : x ∉ S) : Dk n H' x := by
  obtain ⟨ps, A, h1, h2, h3⟩ := h
  exact ⟨ps, A, k.lst h1 m, h2.keep k, h3⟩
section
variable {A : Addr → Act} {ps qs : List Addr}
theorem marks_inj (nd : (ps.map fun p => (A p).mark).Nodup) : ∀ p ∈ ps, ∀ q ∈ ps, (A p).mark = (A q).mark → p = q := by
  induction ps with
  | nil => intro p m; simp at m
  | cons x xs ih =>
    rw [List.map_cons, List.nodup_cons] at nd
    intro p mp q mq e
    rcases List.mem_cons.mp mp with e1 | m1
    · rcases List.mem_cons.mp mq with e2 | m2
      · rw [e1, e2]
      · exact absurd (List.mem_map.mpr ⟨q, m2, by rw [← e, e1]⟩) nd.1
    · rcases List.mem_cons.mp mq with e2 | m2
      · exact absurd (List.mem_map.mpr ⟨p, m1, by rw [e, e2]⟩) nd.1
      · exact ih nd.2 p m1 q m2 e
theorem place_mark {a b : Act} (h : a.place = b.place) : a.mark = b.mark := by
  unfold Act.place at h
  injection h with h1 h
  injection h with h2 h
  injection h with h3 h
  unfold Act.mark
  rw [h2, h3]
/-- the same deeds in order twice -/
theorem placed_uniq (nd : (ps.map fun p => (A p).mark).Nodup) (h : qs.Perm ps) (hp : Placed A ps) (hq : Placed A qs) : qs = ps :=
  (srt_uniq (k := fun p => (A p).place) h.symm hp hq fun x mx y my e => marks_inj nd x mx y my (place_mark e)).symm
theorem placed_lt (nd : (ps.map fun p => (A p).mark).Nodup) (hp : Placed A ps) {i j : Nat} {p q : Addr} (hi : ps[i]? = some p) (hj : ps[j]? = some q) (h : i < j) : HT.lexLt (A p).place (A q).place = true := by
  cases e : HT.lexLt (A p).place (A q).place with
  | true => rfl
  | false =>
    exfalso
    obtain ⟨li, ei⟩ := List.getElem?_eq_some_iff.mp hi
    obtain ⟨lj, ej⟩ := List.getElem?_eq_some_iff.mp hj
    have q1 := (List.pairwise_iff_getElem.mp hp) i j li lj h
    rw [ei, ej] at q1
    have q2 := place_mark (lex_tot _ _ e q1)
    have q3 := (List.pairwise_iff_getElem.mp nd) i j (by simpa using li) (by simpa using lj) h
    simp only [List.getElem_map] at q3
    rw [ei, ej] at q3
    exact q3 q2
def markK (A : Addr → Act) (x : V) : List Int := [(A (refA x)).who, (A (refA x)).num]
theorem markK_inj (nd : (ps.map fun p => (A p).mark).Nodup) : ∀ x ∈ ps.map V.ref, ∀ y ∈ ps.map V.ref, markK A x = markK A y → x = y := by
  intro x mx y my e
  obtain ⟨p, mp, rfl⟩ := List.mem_map.mp mx
  obtain ⟨q, mq, rfl⟩ := List.mem_map.mp my
  unfold markK at e
  injection e with e1 e
  injection e with e2 e
  rw [marks_inj nd p mp q mq (by unfold Act.mark; exact Prod.ext e1 e2)]
theorem markK_at {H : Hp} (ha : Acts A H ps) : ∀ x ∈ ps.map V.ref, ∃ t rs, x = V.ref t ∧ H t = some (.tup ((markK A x).map V.int ++ rs)) := by
  intro x mx
  obtain ⟨p, mp, rfl⟩ := List.mem_map.mp mx
  obtain ⟨⟨n, q, h1, h2, h3⟩, _⟩ := ha p mp
  exact ⟨p, [.ref n, .ref q], rfl, h1⟩
end
end FR

namespace FR
open PySem PySem.Spec PyProof.Rows L2 SrtO
abbrev sLook : Stmt := top 4
abbrev sHasMark : Stmt := top 10
abbrev sHasNote : Stmt := top 11
abbrev sDown : Stmt := top 12
theorem Room.units65 {k : Nat} {A : Around} (r : L2.Room k A) : A.units + 65 < cLine := by
  have := r.un
  omega
def Act.markOk (a : Act) (many : Int) : Bool := decide (0 ≤ a.who) && decide (a.who < many) && decide (1 ≤ a.num)
def Act.noteOk (a : Act) (many : Int) : Bool := decide ((a.note.length : Int) = many) && (a.note.all (fun x => decide (0 ≤ x)) && decide (a.note.getD a.who.toNat 0 = a.num - 1))
def What.downOk (w : What) (who many : Int) : Bool := match w with
  | .give _ _ m => decide (who < m) && decide (m < many)
  | .take _ _ m => decide (who < m) && decide (m < many)
  | .use _ _ => true
def spHasMark : Sp := fun vs H Q _ => ∃ (p : Addr) (many : Int) (a : Act), vs = [.int many, .ref p] ∧ ActAt H p a ∧ ∀ H', Same H H' → Q (.bl (a.markOk many)) H'
def spHasNote : Sp := fun vs H Q _ => ∃ (p : Addr) (many : Nat) (a : Act), vs = [.int many, .ref p] ∧ ActAt H p a ∧ 1 ≤ many ∧ 0 ≤ a.who ∧ a.who < many ∧ Q (.bl (a.noteOk many)) H
def spDown : Sp := fun vs H Q _ => ∃ (p : Addr) (many : Int) (a : Act), vs = [.int many, .ref p] ∧ ActAt H p a ∧ Q (.bl (a.what.downOk a.who many)) H
def Act.good (a : Act) (many : Nat) : Prop := a.markOk many = true ∧ a.noteOk many = true ∧ a.what.downOk a.who many = true
def spLook : Sp := fun vs H Q _ => ∃ (p : Addr) (many : Nat) (a : Act), vs = [.int many, .ref p] ∧ ActAt H p a ∧ 1 ≤ many ∧ a.good many ∧ ∀ H', Same H H' → Q .non H'
/-- a statement that isn't come to -/
theorem ps_no {X : Cx} {st : Stmt} : PS X st (fun _ _ _ => False) := ⟨fun pins s σ H D I h => h.elim⟩
section
variable {P : Program} {w : World} {K : PySem.W.Frag} {mg : Str → Option Value} {base : Heap}
theorem scHasMark : FnScope ["members", "deed", "author", "number"] ["members", "deed"] (defScope sHasMark) := ⟨rfl, rfl, rfl, by decide +kernel, rfl, by decide +kernel, by decide +kernel⟩
theorem ok_hasMark {f fM : Addr} {fd fdM : FuncData} {k : Nat} (F : Fun K "_has_mark" "_has_mark" sHasMark f fd) (M : Cal P w K mg base k "mark" ["deed"] spMark fM fdM) : FnOk P w K mg base CX0 (k + 1) f fd ["members", "deed"] spHasMark := by
  refine F.ok scHasMark (fun vs H Q E h => ?_) (fun cdv A outer s H vs Q E hr h => ?_)
  · obtain ⟨p, many, a, rfl, _⟩ := h
    rfl
  obtain ⟨p, many, a, rfl, ha, out⟩ := h
  refine ⟨_, pss_cons (ps_asg (pe_call M.ok hr (by rfl) M.m M.kp M.b .nil pass0 (pa_cons (pv 1) pa_nil)) (pg_tup rfl (pgs_cons (pg_name (i := 2) scHasMark.nd rfl (.inl rfl)) (pgs_cons (pg_name (i := 3) scHasMark.nd rfl (.inl rfl)) pgs_nil))))
    (pss_one (ps_ret (pe_and (pe_chain op_le op_lt pe_int (pv 2) (pv 0)) (pe_one (pe_cmpR op_ge (pv 3) pe_int (nomark _)))))), ?_⟩
  refine ⟨_, rfl, p, a, rfl, ha, fun q H1 s1 nq eq => ?_⟩
  refine ⟨q, _, rfl, sqT eq, rfl, _, _, rfl, _, _, rfl, rfl, ?_⟩
  have o1 := out H1 s1
  unfold Act.markOk at o1
  refine ⟨_, rfl, _, _, rfl, rfl, _, rfl, ite2 (fun c => ?_) (fun c => ?_)⟩
  · have c : decide (0 ≤ a.who) = true := c
    rw [c, Bool.true_and] at o1
    refine ⟨_, rfl, _, _, rfl, rfl, _, rfl, ite2 (fun c2 => ?_) (fun c2 => ?_)⟩
    · have c2 : decide (a.who < many) = true := c2
      rw [c2, Bool.true_and] at o1
      exact ⟨_, rfl, _, _, rfl, rfl, o1⟩
    · have c2 : decide (a.who < many) = false := Bool.eq_false_iff.mpr c2
      rw [c2, Bool.false_and] at o1
      exact o1
  · have c : decide (0 ≤ a.who) = false := Bool.eq_false_iff.mpr c
    rw [c, Bool.false_and, Bool.false_and] at o1
    exact ⟨false, rfl, iteF o1⟩
theorem scHasNote : FnScope ["members", "deed", "author", "number", "seen", "_"] ["members", "deed"] (defScope sHasNote) := ⟨rfl, rfl, rfl, by decide +kernel, rfl, by decide +kernel, by decide +kernel⟩
theorem min_all {ns : List Int} {m : Int} (hm : m ∈ ns) (le : ∀ y ∈ ns, m ≤ y) : ns.all (fun x => decide (0 ≤ x)) = decide (0 ≤ m) := by
  by_cases h : 0 ≤ m
  · rw [decide_eq_true h, List.all_eq_true]
    exact fun x mx => decide_eq_true (Int.le_trans h (le x mx))
  · rw [decide_eq_false h, List.all_eq_false]
    exact ⟨m, hm, by simpa using h⟩
theorem ok_hasNote {f : Addr} {fd : FuncData} {k : Nat} (F : Fun K "_has_note" "_has_note" sHasNote f fd) (B : Blt mg) (mn : mg "min" = none) : FnOk P w K mg base CX0 (k + 1) f fd ["members", "deed"] spHasNote := by
  refine F.ok scHasNote (fun vs H Q E h => ?_) (fun cdv A outer s H vs Q E hr h => ?_)
  · obtain ⟨p, many, a, rfl, _⟩ := h
    rfl
  obtain ⟨p, many, a, rfl, ⟨n, q, h1, h2, h3⟩, b1, w0, w1, out⟩ := h
  refine ⟨_, pss_cons (ps_asg (pv 1) (pg_tup rfl (pgs_cons (pg_name (i := 2) scHasNote.nd rfl (.inl rfl)) (pgs_cons (pg_name (i := 3) scHasNote.nd rfl (.inl rfl)) (pgs_cons (pg_name (i := 4) scHasNote.nd rfl (.inl rfl)) (pgs_cons (pg_name (i := 5) scHasNote.nd rfl (.inl rfl)) pgs_nil))))))
    (pss_one (ps_ret (pe_and (pe_cmpR op_eq (pe_callB call_len_seq (by rfl) B.len PySem.boot_len (pa_cons (pv 4) pa_nil)) (pv 0) (nomark _)) (pe_and (pe_cmpR op_ge (pe_callB (cr_minT rfl) (by rfl) mn (by decide +kernel) (pa_cons (pv 4) pa_nil)) pe_int (nomark _)) (pe_one (pe_cmpR op_eq (pe_ix ix_tup (pv 4) (pv 2) (fun _ _ => rfl)) (pe_op op_sub (pv 3) pe_int) (nomark _))))))), ?_⟩
  unfold Act.noteOk at out
  refine ⟨_, rfl, p, _, rfl, sqT h1, rfl, _, _, rfl, _, _, rfl, _, _, rfl, _, _, rfl, rfl, _, rfl, n, _, rfl, .inr (sqT h2), _, rfl, rfl, _, rfl, ?_⟩
  rw [List.length_map]
  by_cases c : a.note.length = many
  · have e1 : decide (V.int ((a.note.length : Nat) : Int) = V.int (many : Int)) = true := decide_eq_true (by rw [c])
    rw [e1]
    rw [decide_eq_true (show (a.note.length : Int) = many by omega), Bool.true_and] at out
    refine iteT ⟨_, rfl, n, a.note, rfl, sqT h2, by omega, fun m hm le => ⟨_, _, rfl, rfl, ?_⟩⟩
    rw [min_all hm le] at out
    refine ⟨_, rfl, ite2 (fun c2 => ?_) (fun c2 => ?_)⟩
    · have c2 : decide (0 ≤ m) = true := c2
      rw [c2, Bool.true_and] at out
      obtain ⟨z, hz⟩ := get_some (l := a.note) (i := a.who.toNat) (by omega)
      refine ⟨_, rfl, _, rfl, n, _, _, _, rfl, rfl, sqT h2, at_of (j := a.who.toNat) (by omega) (ints_at hz), _, rfl, _, _, rfl, rfl, rfl, ?_⟩
      rw [getD_of hz] at out
      have e2 : decide (V.int z = V.int (a.num - 1)) = decide (z = a.num - 1) := by
        by_cases e : z = a.num - 1
        · rw [decide_eq_true e, e]
          exact decide_eq_true rfl
        · rw [decide_eq_false e]
          exact decide_eq_false fun h => e (V.int.inj h)
      rw [e2]
      exact out
    · have c2 : decide (0 ≤ m) = false := Bool.eq_false_iff.mpr c2
      rw [c2, Bool.false_and] at out
      exact out
  · have e1 : decide (V.int ((a.note.length : Nat) : Int) = V.int (many : Int)) = false := decide_eq_false fun h => c (by have := V.int.inj h; omega)
    rw [e1]
    rw [decide_eq_false (show ¬ (a.note.length : Int) = many by omega), Bool.false_and] at out
    exact iteF out
theorem scDown : FnScope ["members", "deed", "what"] ["members", "deed"] (defScope sDown) := ⟨rfl, rfl, rfl, by decide +kernel, rfl, by decide +kernel, by decide +kernel⟩
theorem ok_down {f : Addr} {fd : FuncData} {k : Nat} (F : Fun K "_goes_down" "_goes_down" sDown f fd) : FnOk P w K mg base CX0 (k + 1) f fd ["members", "deed"] spDown := by
  refine F.ok scDown (fun vs H Q E h => ?_) (fun cdv A outer s H vs Q E hr h => ?_)
  · obtain ⟨p, many, a, rfl, _⟩ := h
    rfl
  obtain ⟨p, many, a, rfl, ⟨n, q, h1, h2, h3⟩, out⟩ := h
  refine ⟨_, pss_cons (ps_set (i := 2) scDown.nd rfl (.inl rfl) (pe_ix ix_tup (pv 1) pe_int (fun _ _ => rfl)))
    (pss_one (ps_ret (pe_or (pe_cmpR op_eq (pe_ix ix_tup (pv 2) pe_int (fun _ _ => rfl)) pe_str (nomark _)) (pe_one (pe_chain op_lt op_lt (pe_ix ix_tup (pv 1) pe_int (fun _ _ => rfl)) (pe_ix ix_tup (pv 2) pe_int (fun _ _ => rfl)) (pv 0)))))), ?_⟩
  refine ⟨_, rfl, p, _, _, _, rfl, rfl, sqT h1, atI_nat (j := 3) rfl, ?_⟩
  obtain ⟨aw, an, at', wt⟩ := a
  cases wt with
  | use x y =>
    refine ⟨_, rfl, q, _, _, _, rfl, rfl, sqT h3, atI_nat (j := 0) rfl, rfl, _, rfl, ?_⟩
    rw [show decide (V.str "use" = V.str "use") = true from decide_eq_true rfl]
    exact iteT out
  | give x y m =>
    refine ⟨_, rfl, q, _, _, _, rfl, rfl, sqT h3, atI_nat (j := 0) rfl, rfl, _, rfl, ?_⟩
    rw [show decide (V.str "give" = V.str "use") = false by decide +kernel]
    refine iteF ⟨_, rfl, p, _, _, _, rfl, rfl, sqT h1, atI_nat (j := 0) rfl, _, rfl, q, _, _, _, rfl, rfl, sqT h3, atI_nat (j := 3) rfl, _, _, rfl, rfl, _, rfl, ite2 (fun c => ?_) (fun c => ?_)⟩
    · have c : decide (aw < m) = true := c
      have e : (What.give x y m).downOk aw many = decide (m < many) := by
        unfold What.downOk
        simp only [c, Bool.true_and]
      rw [e] at out
      exact ⟨_, rfl, _, _, rfl, rfl, out⟩
    · have c : decide (aw < m) = false := Bool.eq_false_iff.mpr c
      have e : (What.give x y m).downOk aw many = false := by
        unfold What.downOk
        simp only [c, Bool.false_and]
      rw [e] at out
      exact out
  | take x y m =>
    refine ⟨_, rfl, q, _, _, _, rfl, rfl, sqT h3, atI_nat (j := 0) rfl, rfl, _, rfl, ?_⟩
    rw [show decide (V.str "take" = V.str "use") = false by decide +kernel]
    refine iteF ⟨_, rfl, p, _, _, _, rfl, rfl, sqT h1, atI_nat (j := 0) rfl, _, rfl, q, _, _, _, rfl, rfl, sqT h3, atI_nat (j := 3) rfl, _, _, rfl, rfl, _, rfl, ite2 (fun c => ?_) (fun c => ?_)⟩
    · have c : decide (aw < m) = true := c
      have e : (What.take x y m).downOk aw many = decide (m < many) := by
        unfold What.downOk
        simp only [c, Bool.true_and]
      rw [e] at out
      exact ⟨_, rfl, _, _, rfl, rfl, out⟩
    · have c : decide (aw < m) = false := Bool.eq_false_iff.mpr c
      have e : (What.take x y m).downOk aw many = false := by
        unfold What.downOk
        simp only [c, Bool.false_and]
      rw [e] at out
      exact out
theorem scLook : FnScope ["members", "deed"] ["members", "deed"] (defScope sLook) := ⟨rfl, rfl, rfl, by decide +kernel, rfl, by decide +kernel, by decide +kernel⟩
theorem ok_look {f fM fN fG : Addr} {fd fdM fdN fdG : FuncData} {k : Nat} (F : Fun K "look" "look" sLook f fd) (M : Cal P w K mg base k "_has_mark" ["members", "deed"] spHasMark fM fdM) (N : Cal P w K mg base k "_has_note" ["members", "deed"] spHasNote fN fdN) (G : Cal P w K mg base k "_goes_down" ["members", "deed"] spDown fG fdG) : FnOk P w K mg base CX0 (k + 1) f fd ["members", "deed"] spLook := by
  refine F.ok scLook (fun vs H Q E h => ?_) (fun cdv A outer s H vs Q E hr h => ?_)
  · obtain ⟨p, many, a, rfl, _⟩ := h
    rfl
  obtain ⟨p, many, a, rfl, ha, b1, ⟨g1, g2, g3⟩, out⟩ := h
  refine ⟨_, pss_one (ps_if (pt_not (PW.pt (pw_and (pt_val (pe_call M.ok hr (by rfl) M.m M.kp M.b .nil pass0 (pa_cons (pv 0) (pa_cons (pv 1) pa_nil)))) (pw_and (pt_val (pe_call N.ok hr (by rfl) N.m N.kp N.b .nil pass0 (pa_cons (pv 0) (pa_cons (pv 1) pa_nil))))
    (pw_and1 (pt_val (pe_call G.ok hr (by rfl) G.m G.kp G.b .nil pass0 (pa_cons (pv 0) (pa_cons (pv 1) pa_nil))))))))) (pss_one ps_no) pss_nil), ?_⟩
  have g1' := g1
  unfold Act.markOk at g1'
  simp only [Bool.and_eq_true, decide_eq_true_eq] at g1'
  refine ⟨_, rfl, _, rfl, p, many, a, rfl, ha, fun H1 s1 => ⟨_, rfl, ?_⟩⟩
  rw [g1]
  have ha1 := ha.keep (S := []) (.of s1)
  refine iteT ⟨_, rfl, _, rfl, p, many, a, rfl, ha1, b1, g1'.1.1, g1'.1.2, _, rfl, ?_⟩
  rw [g2]
  refine iteT ⟨_, rfl, _, rfl, p, many, a, rfl, ha1, _, rfl, ?_⟩
  rw [g3]
  exact iteF (out H1 s1)
end
end FR

/-! zip of a list and a tuple. -/
namespace FR
open PySem PySem.Spec PyProof.Rows L2
theorem nin2 {x y z : Nat} (h1 : x ≠ y) (h2 : x ≠ z) : x ∉ ([y, z] : List Nat) := by
  intro m
  rcases List.mem_cons.mp m with m | m
  · exact h1 m
  · exact h2 (List.mem_singleton.mp m)
theorem zsep {n a b : Nat} (ha : a < n) (hb : b < n) : ZipSep2 (n + 4) (n + 2) (n + 3) n (n + 1) [n, a] [n + 1, b] where
  TIz := show (n + 2 : Nat) ≠ n + 4 by omega
  TOz := show (n + 3 : Nat) ≠ n + 4 by omega
  TITO := show (n + 2 : Nat) ≠ n + 3 by omega
  TIi1 := show (n + 2 : Nat) ≠ n by omega
  mem1 := List.mem_cons_self ..
  zf1 := nin2 (by omega) (by omega)
  Tf1 := nin2 (by omega) (by omega)
  TIi2 := show (n + 2 : Nat) ≠ n + 1 by omega
  mem2 := List.mem_cons_self ..
  zf2 := nin2 (by omega) (by omega)
  Tf2 := nin2 (by omega) (by omega)
  sep1_2 := nin2 (by omega) (by omega)
  sep2_1 := nin2 (by omega) (by omega)
/-- a list beside a tuple -/
def ItzM (K : PySem.W.Frag) (a b : Addr) : It where
  go := fun i H => ∃ (xs ys : List V) (x y : V), SqL K H a xs ∧ SqT K H b ys ∧ xs[i]? = some x ∧ ys[i]? = some y
  yld := fun i H v H' => ∃ (T : Addr) (x y : V), v = .ref T ∧ H T = none ∧ H' = upd H T (.tup [x, y]) ∧ (∀ xs, SqL K H a xs → xs[i]? = some x) ∧ ∀ ys, SqT K H b ys → ys[i]? = some y
  stop := fun i H => ∃ xs ys : List V, SqL K H a xs ∧ SqT K H b ys ∧ i ≤ xs.length ∧ i ≤ ys.length ∧ (i = xs.length ∨ i = ys.length)
def zipSt (n a b : Addr) (i : Nat) (h : Heap) : Prop := IsZip h (n + 4) (n + 2) (n + 3) .none ∧ IsTupOf2 h (n + 2) (.ref n) (.ref (n + 1)) ∧ (∃ u v, IsTupOf2 h (n + 3) u v) ∧ h.IsListIter n a i ∧ h.IsTupleIter (n + 1) b i
def zipFp (n : Nat) : List Addr := [n + 4, n + 2, n + 3, n, n + 1]
theorem zip_out {n : Nat} {c : Addr} (h : c ∉ zipFp n) : c ≠ n + 4 ∧ c ≠ n + 3 ∧ c ≠ n ∧ c ≠ n + 1 := by
  unfold zipFp at h
  simp only [List.mem_cons, List.not_mem_nil, or_false, not_or] at h
  exact ⟨h.1, h.2.2.1, h.2.2.2.1, h.2.2.2.2⟩
theorem zip_in {n : Nat} {c : Addr} (h : c ∈ zipFp n) : c = n + 4 ∨ c = n + 2 ∨ c = n + 3 ∨ c = n ∨ c = n + 1 := by
  unfold zipFp at h
  simpa using h
theorem turn_zipM {P : Program} {w : World} {K : PySem.W.Frag} {elts : List Expr} {kk : Nat} {tpos : Pos} {n a b : Nat} (ha : a < n) (hb : b < n) : Turn P w K (.Tuple elts kk tpos) (ItzM K a b) (zipFp n) (n + 4) (zipSt n a b) := by
  have S := zsep ha hb
  refine { mem := List.mem_cons_self .., obj := fun i h st c hc => ?_, keep := fun i h h' st k => ?_, item := ?_, done := ?_, self := fun A i s Q E st h => wpAny_pyIter_zip st.1 h }
  · obtain ⟨hz, hTI, ⟨u, v, hTO⟩, ⟨o1, e1, _, d1⟩, o2, e2, _, d2⟩ := st
    rcases zip_in hc with q | q | q | q | q <;> rw [q]
    · exact ⟨_, hz, fun v z => nomatch z⟩
    · exact ⟨_, hTI, fun v z => nomatch z⟩
    · exact ⟨_, hTO, fun v z => nomatch z⟩
    · exact ⟨o1, e1, fun v z => by
        rw [d1] at z
        cases z⟩
    · exact ⟨o2, e2, fun v z => by
        rw [d2] at z
        cases z⟩
  · obtain ⟨hz, hTI, ⟨u, v, hTO⟩, h1, h2⟩ := st
    have m : ∀ c, (c = n + 4 ∨ c = n + 2 ∨ c = n + 3 ∨ c = n ∨ c = n + 1) → c ∈ zipFp n := fun c q => by
      unfold zipFp
      simpa using q
    exact ⟨k _ (m _ (.inl rfl)) _ hz, k _ (m _ (.inr (.inl rfl))) _ hTI, ⟨u, v, k _ (m _ (.inr (.inr (.inl rfl)))) _ hTO⟩, h1.at fun o q => k _ (m _ (.inr (.inr (.inr (.inl rfl))))) o q, h2.at fun o q => k _ (m _ (.inr (.inr (.inr (.inr rfl))))) o q⟩
  · intro X eP ew eK calm i pins s σ H E I hf st hg
    subst eP ew eK
    obtain ⟨hz, hTI, ⟨u0, v0, hTO⟩, h1, h2⟩ := st
    obtain ⟨xs, ys, x, y, sx, sy, hx, hy⟩ := hg
    obtain ⟨its, rv, p, _⟩ := I.list sx
    obtain ⟨jts, rw', p', _⟩ := I.tuple sy
    have hd := I.ok.hd calm
    have lx := (List.getElem?_eq_some_iff.mp hx).1
    have ly := (List.getElem?_eq_some_iff.mp hy).1
    have l1 := rv.length
    have l2 := rw'.length
    refine wpAny_pyNext_zipD2_item S (Draws.list (A := X.A.in1) hd n a (show (a : Nat) ≠ n by omega) its.toArray) (Draws.tuple (A := X.A.in1) hd (n + 1) b (show (b : Nat) ≠ n + 1 by omega) jts.toArray) hz hTI hTO ⟨h1, p.isList⟩ ⟨h2, p'⟩ (by simp; omega) (by simp; omega) ?_
    intro u v h' tk hu hv z' TO' st1 st2 hT hsz hk
    have ru : RelV x u := by
      obtain ⟨u', e, r⟩ := rv.get hx
      have e2 : its[i]? = some u := by simpa using hu
      rw [e] at e2
      cases e2
      exact r
    have rv2 : RelV y v := by
      obtain ⟨u', e, r⟩ := rw'.get hy
      have e2 : jts[i]? = some v := by simpa using hv
      rw [e] at e2
      cases e2
      exact r
    refine ⟨_, rfl, wpAny_letOwnedTupleGo_zip (s := { s with heap := h', toks := tk }) z' fun g z'' sb => ?_⟩
    have nz : s.heap.objs.size ≠ n + 4 := Nat.ne_of_gt (Heap.lt_size hz)
    have hT2 : g.get? s.heap.objs.size = some { cls := .type "tuple", data := .seq #[u, v] } := (sb.2 _ nz).trans hT
    have laid : ObjOk X.prog X.w (upd H s.heap.objs.size (.tup [x, y])) g s.heap.objs.size (.tup [x, y]) := ⟨(by show 2 ≤ sizeLine; decide), [u, v], .cons ru (.cons rv2 .nil), _, hT2, rfl, _, rfl⟩
    have keep : ∀ c o, c ∉ zipFp n → s.heap.get? c = some o → g.get? c = some o := fun c o hc e => by
      obtain ⟨c1, c2, c3, c4⟩ := zip_out hc
      exact (sb.2 c c1).trans (hk c o c1 c2 c3 c4 e)
    have I1 : Inv X pins σ (upd H s.heap.objs.size (.tup [x, y])) { s with heap := g, toks := tk } := I.turnedNew (t' := tk) (ch := zipFp n) keep hf (Nat.le_refl _) laid
    refine ⟨.ref s.heap.objs.size, _, I1, rfl, ⟨_, x, y, rfl, I.hok.fresh (Nat.le_refl _), rfl, fun l hl => ?_, fun l hl => ?_⟩, ⟨z'', ?_, ⟨u, v, (sb.2 _ S.TOz).trans TO'⟩, st1.1.at fun o q => (sb.2 _ S.zi1.symm).trans q, st2.1.at fun o q => (sb.2 _ S.zi2.symm).trans q⟩, fun c hc => ?_⟩
    · rw [I.list_inj hl sx]
      exact hx
    · rw [I.tuple_inj hl sy]
      exact hy
    · exact (sb.2 _ S.TIz).trans (hk _ _ S.TIz S.TITO S.TIi1 S.TIi2 hTI)
    · have lt : c < s.heap.objs.size := by
        rcases zip_in hc with q | q | q | q | q <;> rw [q]
        · exact Heap.lt_size hz
        · exact Heap.lt_size hTI
        · exact Heap.lt_size hTO
        · obtain ⟨_, e, _⟩ := h1
          exact Heap.lt_size e
        · obtain ⟨_, e, _⟩ := h2
          exact Heap.lt_size e
      rw [upd_ne (Nat.ne_of_lt lt)]
      exact (hf c hc).1
  · intro X eP ew eK calm i pins s σ H E I hf st hg
    subst eP ew eK
    obtain ⟨hz, hTI, ⟨u0, v0, hTO⟩, h1, h2⟩ := st
    obtain ⟨xs, ys, sx, sy, le1, le2, hend⟩ := hg
    obtain ⟨its, rv, p, _⟩ := I.list sx
    obtain ⟨jts, rw', p', _⟩ := I.tuple sy
    have hd := I.ok.hd calm
    have l1 := rv.length
    have l2 := rw'.length
    refine wpAny_pyNext_zipD2_end S (Draws.list (A := X.A.in1) hd n a (show (a : Nat) ≠ n by omega) its.toArray) (Draws.tuple (A := X.A.in1) hd (n + 1) b (show (b : Nat) ≠ n + 1 by omega) jts.toArray) hz hTI hTO ⟨h1, p.isList⟩ ⟨h2, p'⟩ (by simp; omega) (by simp; omega) (by simp; omega) ?_
    intro h' tk hk
    refine ⟨rfl, I.turnedL (t' := tk) (ch := zipFp n) (fun c o hc e => ?_) hf⟩
    obtain ⟨c1, c2, c3, c4⟩ := zip_out hc
    exact hk c o c1 c2 c3 c4 e
def iZipM (K : PySem.W.Frag) (ta : TA) : TI := fun σ H R => ta σ H fun vs H1 => ∃ (a b : Addr) (xs ys : List V), vs = [.ref a, .ref b] ∧ SqL K H1 a xs ∧ SqT K H1 b ys ∧ R (ItzM K a b) H1
theorem pi_zipM {X : Cx} {e e2 : Expr} {ta : TA} {p pos tpos : Pos} {elts : List Expr} {kk : Nat} (hg : Gl X "zip") (hm : X.mg "zip" = none) (ha : PA X [e, e2] ta)
    (hs : starEach [e, e2] X.env = (false, eval e X.env) :: starEach [e2] X.env := by rfl) (hpl : (backTo pos (starEach [e2] X.env)).any (·.1) = false := by rfl) : PI X (.Tuple elts kk tpos) (.Call (.Name "zip" p) [e, e2] [] pos) (iZipM X.K ta) := by
  constructor
  intro pins s σ H R I h
  refine Call_ (ld_blt I hg hm PyProof.Rows.boot_zip (PyProof.Rows.callWith_type1 (thn (ha.run pos pins s σ H _ I h) fun us s1 q1 => ?_) hs hpl))
  obtain ⟨vs, H1, I1, r1, a, b, xs, ys, rfl, sx, sy, q⟩ := q1
  obtain ⟨u1, u2, rfl, e1, e2'⟩ := vals2 r1
  obtain rfl : u1 = Value.ref a := e1
  obtain rfl : u2 = Value.ref b := e2'
  obtain ⟨its, rv, p1, _⟩ := I1.list sx
  obtain ⟨jts, rw', p2, _⟩ := I1.tuple sy
  refine zip_begins2 (begins_list a its.toArray) (begins_tuple b jts.toArray) p1.isList p2 fun h' hz hTI hTO g1 g2 hsz hk => wpAny_pyIter_zip hz ?_
  have lb : b < s1.heap.objs.size := p2.lt
  refine ⟨s1.heap.objs.size + 4, zipFp s1.heap.objs.size, _, _, H1, rfl, I1.kept (t' := s1.toks) hk, turn_zipM p1.lt lb, ⟨hz, hTI, ⟨_, _, hTO⟩, ⟨_, g1, rfl, rfl⟩, _, g2, rfl, rfl⟩, fun c hc => ?_, q⟩
  have le : s1.heap.objs.size ≤ c := by
    rcases zip_in hc with q | q | q | q | q <;> rw [q]
    · exact Nat.le_add_right _ _
    · exact Nat.le_add_right _ _
    · exact Nat.le_add_right _ _
    · exact Nat.le_refl _
    · exact Nat.le_add_right _ _
  exact I1.fpOk le (I1.hok.fresh le)
theorem walk_zipM {K : PySem.W.Frag} {a b : Addr} {xs ys : List V} {n : Nat} (h1 : xs.length = n) (h2 : ys.length = n) : Walk (ItzM K a b) n (fun H => SqL K H a xs ∧ SqT K H b ys) (YPair (fun i => xs[i]?) (fun i => ys[i]?)) := by
  constructor
  · intro i H hi q
    exact ⟨xs, ys, _, _, q.1, q.2, List.getElem?_eq_getElem (by omega), List.getElem?_eq_getElem (by omega)⟩
  · intro H q
    exact ⟨xs, ys, q.1, q.2, by omega, by omega, .inl h1.symm⟩
  · intro i H v H' hi q y
    obtain ⟨T, x, z, k1, k2, k3, k4, k5⟩ := y
    exact ⟨T, x, z, k1, k2, k3, k4 xs q.1, k5 ys q.2⟩
end FR

/-! Cuts through a world. -/
namespace FR
open PySem PySem.Spec PyProof.Rows L2 SrtO
structure Cut (many : Nat) (as : List Act) (D : Nat → Int) (top : List Int) : Prop where
  len : top.length = many
  pos : ∀ x ∈ top, 0 ≤ x
  le : ∀ (i : Nat) (x : Int), top[i]? = some x → x ≤ D i
  cl : ∀ b ∈ as, inCut top b = true → Le b.note top
theorem Cut.zero {many : Nat} {as : List Act} {D : Nat → Int} (W : Wide many as) (h0 : ∀ i, 0 ≤ D i) : Cut many as D (List.replicate many 0) := by
  refine ⟨List.length_replicate, fun x m => ?_, fun i x h => ?_, fun b mb h => ?_⟩
  · rw [(List.mem_replicate.mp m).2]
    exact Int.le_refl 0
  · rw [(List.mem_replicate.mp (List.mem_of_getElem? h)).2]
    exact h0 i
  · obtain ⟨k, e, hk, h1, _⟩ := W.act b mb
    unfold inCut at h
    have e2 : b.who.toNat = k := by omega
    have g : (List.replicate many (0 : Int))[k]? = some 0 := by rw [List.getElem?_replicate, if_pos hk]
    rw [e2, getD_of g] at h
    have := of_decide_eq_true h
    omega
theorem Cut.step {many : Nat} {as : List Act} {D : Nat → Int} {top : List Int} (W : Wide many as) (inj : ∀ a ∈ as, ∀ b ∈ as, a.mark = b.mark → a = b) (hD : ∀ a ∈ as, ∀ (i : Nat) (x : Int), a.note[i]? = some x → x ≤ D i) (hN : ∀ a ∈ as, a.num ≤ D a.who.toNat)
    (C : Cut many as D top) {a : Act} (ha : a ∈ as) {i : Nat} (ei : a.who = (i : Int)) {z : Int} (hz : (List.zipWith max top a.note)[i]? = some z) : Cut many as D ((List.zipWith max top a.note).set i (max z a.num)) := by
  have hl : (List.zipWith max top a.note).length = many := by rw [List.length_zipWith, C.len, W.len a ha, Nat.min_self]
  have hi : i < many := by rw [← hl]; exact (List.getElem?_eq_some_iff.mp hz).1
  have self : ((List.zipWith max top a.note).set i (max z a.num))[i]? = some (max z a.num) := List.getElem?_set_self (by rw [hl]; exact hi)
  have other : ∀ k, k ≠ i → ((List.zipWith max top a.note).set i (max z a.num))[k]? = (List.zipWith max top a.note)[k]? := fun k h => List.getElem?_set_ne (fun q => h q.symm)
  have up : ∀ (k : Nat) (x y : Int), (List.zipWith max top a.note)[k]? = some x → ((List.zipWith max top a.note).set i (max z a.num))[k]? = some y → x ≤ y := fun k x y h1 h2 => by
    by_cases e : k = i
    · subst e
      rw [self] at h2
      cases h2
      rw [hz] at h1
      cases h1
      omega
    · rw [other k e, h1] at h2
      cases h2
      exact Int.le_refl _
  have upT : Le top ((List.zipWith max top a.note).set i (max z a.num)) := fun k x y h1 h2 => by
    have hk : k < many := by rw [← C.len]; exact (List.getElem?_eq_some_iff.mp h1).1
    obtain ⟨v, hv⟩ := get_some (show k < (List.zipWith max top a.note).length by rw [hl]; exact hk)
    have q := up k v y hv h2
    obtain ⟨p, r, g1, g2, e⟩ := zip_get hv
    rw [h1] at g1
    cases g1
    omega
  have upN : Le a.note ((List.zipWith max top a.note).set i (max z a.num)) := fun k x y h1 h2 => by
    have hk : k < many := by rw [← W.len a ha]; exact (List.getElem?_eq_some_iff.mp h1).1
    obtain ⟨v, hv⟩ := get_some (show k < (List.zipWith max top a.note).length by rw [hl]; exact hk)
    have q := up k v y hv h2
    obtain ⟨p, r, g1, g2, e⟩ := zip_get hv
    rw [h1] at g2
    cases g2
    omega
  have trans : ∀ {r s : List Int}, r.length = many → s.length = many → Le r s → Le s ((List.zipWith max top a.note).set i (max z a.num)) → Le r ((List.zipWith max top a.note).set i (max z a.num)) := fun hr hs l1 l2 k x y h1 h2 => by
    have hk := (List.getElem?_eq_some_iff.mp h1).1
    obtain ⟨v, hv⟩ := get_some (show k < _ by rw [hs, ← hr]; exact hk)
    have q1 := l1 k x v h1 hv
    have q2 := l2 k v y hv h2
    omega
  refine ⟨by rw [List.length_set]; exact hl, fun x m => ?_, fun k x h => ?_, fun b mb h => ?_⟩
  · rcases List.mem_or_eq_of_mem_set m with m | rfl
    · exact zipWith_nonneg C.pos (W.pos a ha) x m
    · have := zipWith_nonneg C.pos (W.pos a ha) z (List.mem_of_getElem? hz)
      omega
  · by_cases e : k = i
    · subst e
      rw [self] at h
      cases h
      obtain ⟨p, r, g1, g2, e⟩ := zip_get hz
      have q1 := C.le k p g1
      have q2 := hD a ha k r g2
      have q3 := hN a ha
      have e3 : a.who.toNat = k := by omega
      rw [e3] at q3
      omega
    · rw [other k e] at h
      obtain ⟨p, r, g1, g2, e⟩ := zip_get h
      have q1 := C.le k p g1
      have q2 := hD a ha k r g2
      omega
  · obtain ⟨k, ek, hk, h1, h2⟩ := W.act b mb
    have e2 : b.who.toNat = k := by omega
    unfold inCut at h
    rw [e2] at h
    obtain ⟨v, hv⟩ := get_some (show k < (List.zipWith max top a.note).length by rw [hl]; exact hk)
    obtain ⟨p, r, g1, g2, e⟩ := zip_get hv
    have viaT : b.num ≤ p → Le b.note ((List.zipWith max top a.note).set i (max z a.num)) := fun le =>
      trans (W.len b mb) C.len (C.cl b mb (by unfold inCut; rw [e2, getD_of g1]; exact decide_eq_true le)) upT
    have viaN : b.num ≤ r → Le b.note ((List.zipWith max top a.note).set i (max z a.num)) := fun le =>
      trans (W.len b mb) (W.len a ha) (W.cl a ha b mb (by rw [e2, getD_of g2]; exact le)) upN
    by_cases ki : k = i
    · subst ki
      rw [getD_of self] at h
      have h := of_decide_eq_true h
      rw [hz] at hv
      cases hv
      by_cases c1 : b.num ≤ p
      · exact viaT c1
      · by_cases c2 : b.num ≤ r
        · exact viaN c2
        · have c3 : b.num ≤ a.num := by omega
          obtain ⟨k', ek', _, _, hn⟩ := W.act a ha
          have : k' = k := by omega
          subst this
          rw [g2] at hn
          cases hn
          have en : b.num = a.num := by omega
          have eb := inj b mb a ha (Prod.ext (by show b.who = a.who; omega) en)
          rw [eb]
          exact upN
    · rw [show ((List.zipWith max top a.note).set i (max z a.num)).getD k 0 = v from getD_of ((other k ki).trans hv)] at h
      have h := of_decide_eq_true h
      rcases Int.le_total r p with le | le
      · exact viaT (by omega)
      · exact viaN (by omega)
section
variable {many : Nat} {as : List Act} {D : Nat → Int} {top : List Int} {b : Act}
theorem Cut.less (W : Wide many as) (C : Cut many as D top) (hb : b ∈ as) (h : inCut top b = true) : b.note.sum < top.sum := by
  have le := C.cl b hb h
  obtain ⟨k, ek, hk, h1, h2⟩ := W.act b hb
  have e2 : b.who.toNat = k := by omega
  unfold inCut at h
  rw [e2] at h
  obtain ⟨v, hv⟩ := get_some (show k < top.length by rw [C.len]; exact hk)
  rw [getD_of hv] at h
  have h := of_decide_eq_true h
  exact lt_sum k _ v (by rw [W.len b hb, C.len]) le h2 hv (by omega)
/-- what one in the cut has seen is in it -/
theorem Cut.seen (W : Wide many as) (C : Cut many as D top) {c : Act} (hb : b ∈ as) (hc : c ∈ as) (h : inCut top b = true) (s : b.sees c = true) : inCut top c = true := by
  rw [W.sees_iff hb hc] at s
  have le := C.cl b hb h
  obtain ⟨k, ek, hk, h1, h2⟩ := W.act c hc
  have e2 : c.who.toNat = k := by omega
  unfold inCut at s ⊢
  rw [e2] at s ⊢
  obtain ⟨v, hv⟩ := get_some (show k < top.length by rw [C.len]; exact hk)
  obtain ⟨u, hu⟩ := get_some (show k < b.note.length by rw [W.len b hb]; exact hk)
  rw [getD_of hu] at s
  rw [getD_of hv]
  have s := of_decide_eq_true s
  have := le k u v hu hv
  exact decide_eq_true (by omega)
/-- a deed that has seen all of the cut -/
def moreOf (top : List Int) (i : Nat) : Act := ⟨(i : Int), top.getD i 0 + 1, top, .use "a" "b"⟩
theorem Cut.more_sees (W : Wide many as) (C : Cut many as D top) (i : Nat) (hb : b ∈ as) : (moreOf top i).sees b = inCut top b := by
  obtain ⟨k, ek, hk, h1, _⟩ := W.act b hb
  unfold Act.sees Act.seen inCut moreOf
  simp only
  rw [C.len, decide_eq_true (show (0 : Int) ≤ b.who by omega), decide_eq_true (show b.who < (many : Int) by omega), decide_eq_true h1]
  rfl
end
/-- the greatest one stands last -/
theorem placed_last {A : Addr → Act} {qs : List Addr} {m : Addr} (hp : Placed A qs) (mm : m ∈ qs) (lt : ∀ q ∈ qs, q ≠ m → HT.lexLt (A q).place (A m).place = true) : qs[qs.length - 1]? = some m := by
  have hpos : 0 < qs.length := List.length_pos_of_mem mm
  have hl : qs.length - 1 < qs.length := by omega
  rw [List.getElem?_eq_getElem hl]
  congr 1
  by_cases e : qs[qs.length - 1] = m
  · exact e
  · exfalso
    obtain ⟨j, hj⟩ := List.getElem?_of_mem mm
    obtain ⟨lj, ej⟩ := List.getElem?_eq_some_iff.mp hj
    have jl : j < qs.length - 1 := by
      rcases Nat.lt_or_ge j (qs.length - 1) with h | h
      · exact h
      · have : j = qs.length - 1 := by omega
        subst this
        exact absurd ej e
    have q := (List.pairwise_iff_getElem.mp hp) j (qs.length - 1) lj hl jl
    rw [ej] at q
    have z : HT.lexLt (A qs[qs.length - 1]).place (A m).place = false := q
    rw [lt _ (List.getElem_mem hl) e] at z
    cases z
end FR

namespace FR
open PySem PySem.Spec PyProof.Rows L2 SrtO
abbrev sPart : Stmt := top 21
abbrev sLaw : Stmt := top 22
def partOf (A : Addr → Act) (tp : List Int) (qs : List Addr) : List Addr := qs.filter fun o => inCut tp (A o)
/-- what a world's deeds keep to, for cuts -/
structure Deals (many : Nat) (as : List Act) (D : Nat → Int) : Prop where
  W : Wide many as
  inj : ∀ a ∈ as, ∀ b ∈ as, a.mark = b.mark → a = b
  le : ∀ a ∈ as, ∀ (i : Nat) (x : Int), a.note[i]? = some x → x ≤ D i
  num : ∀ a ∈ as, a.num ≤ D a.who.toNat
  pos : ∀ i, 0 ≤ D i
def spPart : Sp := fun vs H Q _ => ∃ (t g ac : Addr) (N many : Nat) (ps : List Addr) (A : Addr → Act) (D : Nat → Int), vs = [.ref t, .int many, .ref ac] ∧ TrayAt H t g N ∧ N < 2 ^ 59 ∧ 1 ≤ many ∧ many ≤ 6 ∧ H ac = some (.lst (ps.map V.ref)) ∧ ac ∉ [t, g] ∧ Acts A H ps ∧ Deals many (ps.map A) D ∧ ps.length ≤ 1000 ∧
  ∀ (H' : Hp) (r tp pt : Addr) (tops : List Int), H r = none → H tp = none → H pt = none → H' r = some (.lst [.ref tp, .ref pt]) → H' tp = some (.lst (tops.map V.int)) → H' pt = some (.lst ((partOf A tops ps).map V.ref)) → Cut many (ps.map A) D tops → TrayAt H' t g (N + 10) → Kp [t, g] H H' → Q (.ref r) H'
section
variable {P : Program} {w : World} {K : PySem.W.Frag} {mg : Str → Option Value} {base : Heap}
abbrev nPart : List Str := ["tray", "many", "acts", "top", "k", "act", "one", "two"]
theorem scPart : FnScope nPart ["tray", "many", "acts"] (defScope sPart) := ⟨rfl, rfl, rfl, by decide +kernel, rfl, by decide +kernel, by decide +kernel⟩
theorem ok_part {f fD : Addr} {fd fdD : FuncData} {k : Nat} (F : Fun K "_law_part" "_law_part" sPart f fd) (D : DrawC P w K mg base k fD fdD) (B : Blt mg) : FnOk P w K mg base CX0 (k + 1) f fd ["tray", "many", "acts"] spPart := by
  refine F.ok scPart (fun vs H Q E h => ?_) (fun cdv A outer s H vs Q E hr h => ?_)
  · obtain ⟨t, g, ac, N, many, ps, A, D, rfl, _⟩ := h
    rfl
  obtain ⟨t, g, ac, N, many, ps, Am, Dg, rfl, T, hN, b1, b6, hac, nacT, hA, dl, hps, out⟩ := h
  refine ⟨_, pss_cons (ps_set (i := 3) scPart.nd rfl (.inr rfl) (pe_op op_rep (pe_lst (pa_cons pe_int pa_nil)) (pv 1)))
    (pss_cons (ps_for PassesOwn.never rfl (pi_range1 (by rfl) B.range (pa_cons (pe_op op_mul (pe_call D.ok hr (by rfl) D.m D.kp D.b .nil pass0 (pa_cons (pv 0) (pa_cons pe_int pa_nil)))
          (pe_callTy call_int1 (by rfl) B.int (by decide +kernel) (pa_cons (pe_cmpR (op_neD hr.units) (pv 2) (pe_lst pa_nil) (nomark _)) pa_nil))) pa_nil)) (pg_name (i := 4) scPart.nd rfl (.inl rfl))
      (pss_cons (ps_set (i := 5) scPart.nd rfl (.inl rfl) (pe_ix ix_list (pv 2) (pe_call D.ok hr (by rfl) D.m D.kp D.b .nil pass0 (pa_cons (pv 0) (pa_cons (pe_callB call_len_seq (by rfl) B.len PySem.boot_len (pa_cons (pv 2) pa_nil)) pa_nil))) (fun _ _ => rfl)))
      (pss_cons (ps_set (i := 3) scPart.nd rfl (.inr rfl) (pe_lc (own := [("one", 6), ("two", 7)]) (g := gTup K 2 (gCons (gName 6) (gCons (gName 7) gNil))) (tt := tYes) rfl scPart.nd
              (pi_zipM (by rfl) B.zip (pa_cons (pv 3) (pa_cons (pe_ix ix_tup (pv 5) pe_int (fun _ _ => rfl)) pa_nil)))
              (blkOk_by (N := nPart) (sc := defScope sPart) (by decide +kernel)) (fun _ _ _ _ _ => pg_tup rfl (pgs_cons (pg_name (i := 6) scPart.nd rfl (Or.inl rfl)) (pgs_cons (pg_name (i := 7) scPart.nd rfl (Or.inl rfl)) pgs_nil))) (fun _ _ _ _ _ => pts_nil)
              (fun _ _ _ _ _ => pe_callB (call_max2 rfl) (by rfl) B.max (by decide +kernel) (pa_cons (pv 6) (pa_cons (pv 7) pa_nil)))))
      (pss_one (ps_asg (pe_callB (call_max2 rfl) (by rfl) B.max (by decide +kernel) (pa_cons (pe_ix ix_list (pv 3) (pe_ix ix_tup (pv 5) pe_int (fun _ _ => rfl)) (fun _ _ => rfl)) (pa_cons (pe_ix ix_tup (pv 5) pe_int (fun _ _ => rfl)) pa_nil))) (pg_sub (pv 3) (pe_ix ix_tup (pv 5) pe_int (fun _ _ => rfl)) set_list))))))
    (pss_one (ps_ret (pe_lst (pa_cons (pv 3) (pa_cons (pe_lc (own := [("act", 5)]) (g := gName 5) rfl scPart.nd (pi_list (pv 2))
          (blkOk_by (N := nPart) (sc := defScope sPart) (by decide +kernel)) (fun _ _ _ _ _ => pg_name (i := 5) scPart.nd rfl (Or.inl rfl))
          (fun _ _ _ _ _ => pts_one (pt_cmpR op_le (pe_ix (ix_tup : IxR _ (rIxT K)) (pv 5) pe_int (fun _ _ => rfl)) (pe_ix (ix_list : IxR _ (rIxL K)) (pv 3) (pe_ix (ix_tup : IxR _ (rIxT K)) (pv 5) pe_int (fun _ _ => rfl)) (fun _ _ => rfl)) (nomark _)))
          (fun _ _ _ _ _ => pv 5)) pa_nil)))))), ?_⟩
  refine ⟨(by show 1 ≤ sizeLine; decide), fun z nz => ?_⟩
  refine ⟨_, rfl, z, _, _, rfl, rfl, upd_same, by omega, by omega, ?_, fun tp0 ntp => ?_⟩
  · show 1 * ((many : Nat) : Int).toNat ≤ sizeLine
    exact Nat.le_of_lt (small1000 (by omega))
  rw [Int.toNat_natCast, rep_zero]
  have sz := same_new (o := .lst [.int 0]) nz
  have ntpH : H tp0 = none := sz.free ntp
  have s1 : Same H (upd (upd H z (.lst [.int 0])) tp0 (.lst ((List.replicate many (0 : Int)).map V.int))) := sz.trans (same_new ntp)
  have htp0 : upd (upd H z (.lst [.int 0])) tp0 (.lst ((List.replicate many (0 : Int)).map V.int)) tp0 = some (.lst ((List.replicate many (0 : Int)).map V.int)) := upd_same
  generalize upd (upd H z (.lst [.int 0])) tp0 (.lst ((List.replicate many (0 : Int)).map V.int)) = H1 at s1 htp0 ⊢
  have T1 := T.same s1
  have ntpT := T.neT ntpH
  refine ⟨_, rfl, t, g, N, 4, rfl, T1, by omega, by decide, by decide, fun H2 d d0 d1 T2 k2 => ?_⟩
  have k02 : Kp [t, g] H H2 := (Kp.of s1).trans k2
  have hac2 := k02.lst hac nacT
  have htp2 := k2.lst htp0 ntpT
  refine ⟨_, rfl, Nat.zero_le _, fun z2 nz2 => ?_⟩
  have sz2 := same_new (o := .lst []) nz2
  have hA2 := hA.keep (k02.trans (.of sz2))
  refine ⟨decks Am ps, .list [], hA2.deck (sz2 _ _ hac2), .lst (sqL upd_same) .nil, decks_shaped hA2.fit, by decide +kernel, .inr ⟨_, rfl, ?_⟩⟩
  rw [decks_nil]
  have hac3 := sz2 _ _ hac2
  have htp3 := sz2 _ _ htp2
  have T3 := T2.same sz2
  have k03 : Kp [t, g] H (upd H2 z2 (.lst [])) := k02.trans (.of sz2)
  generalize upd H2 z2 (.lst []) = H3 at hac3 htp3 T3 k03 hA2 ⊢
  have hb : ∃ b : Int, (if (!ps.isEmpty) = true then (1 : Int) else 0) = b ∧ 0 ≤ b ∧ b ≤ 1 ∧ (0 < b → 0 < ps.length) := by
    cases ps with
    | nil => exact ⟨0, rfl, by omega, by omega, by omega⟩
    | cons x r => exact ⟨1, rfl, by omega, by omega, fun _ => Nat.succ_pos _⟩
  obtain ⟨b, eb, b0, b1', bp⟩ := hb
  rw [eb]
  have hn : 0 ≤ d * b ∧ d * b ≤ 3 ∧ (0 < d * b → 0 < ps.length) := by
    have e : b = 0 ∨ b = 1 := by omega
    rcases e with rfl | rfl
    · rw [Int.mul_zero]
      omega
    · rw [Int.mul_one]
      exact ⟨by omega, by omega, fun _ => bp (by omega)⟩
  refine ⟨_, _, rfl, rfl, .inl ⟨by omega, by omega⟩, d * b, rfl, by omega, by omega, for_range (lo := 0) (n := (d * b).toNat) (fun i σ H' => ∃ v4 v5 tp tops, σ = [some (.ref t), some (.int (many : Int)), some (.ref ac), some (.ref tp), v4, v5, none, none] ∧ H tp = none ∧ H' tp = some (.lst (tops.map V.int)) ∧ Cut many (ps.map Am) Dg tops ∧ TrayAt H' t g (N + 1 + i) ∧ Kp [t, g] H H')
    ⟨none, none, tp0, _, rfl, ntpH, htp3, Cut.zero dl.W dl.pos, T3, k03⟩ ?_ ?_⟩
  · rintro i σ H4 hi ⟨v4, v5, tp, tops, rfl, ntp4, htp4, C4, T4, k04⟩
    have lp := hn.2.2 (by omega)
    have hac4 := k04.lst hac nacT
    have nT4 := T.neT ntp4
    refine ⟨_, rfl, _, rfl, _, rfl, ac, _, rfl, .inl (SqL.of hac4), t, g, _, (ps.length : Int), (by rw [List.length_map]; rfl), T4, by omega, by omega, by omega, fun H5 j j0 j1 T5 k5 => ?_⟩
    have k05 := k04.trans k5
    have hac5 := k05.lst hac nacT
    have htp5 := k5.lst htp4 nT4
    obtain ⟨p, hp⟩ := get_some (show j.toNat < ps.length by omega)
    have mp := List.mem_of_getElem? hp
    have ma : Am p ∈ ps.map Am := List.mem_map.mpr ⟨p, mp, rfl⟩
    obtain ⟨⟨nt, qt, a1, a2, a3⟩, _⟩ := hA.keep k05 p mp
    refine ⟨ac, _, _, .ref p, rfl, rfl, sqL hac5, at_of (j := j.toNat) (by omega) (by rw [List.getElem?_map, hp]; rfl), ?_⟩
    have ll : (Am p).note.length = many := dl.W.len _ ma
    refine ⟨_, rfl, _, rfl, p, _, _, _, rfl, rfl, sqT a1, atI_nat (j := 2) rfl, tp, nt, _, _, rfl, sqL htp5, sqT a2, fun D1 nD => ?_⟩
    refine lc_it (walk_zipM (K := K) (a := tp) (b := nt) (xs := tops.map V.int) (ys := (Am p).note.map V.int) (n := many) (by rw [List.length_map, C4.len]) (by rw [List.length_map, ll]))
      (fun i H' => Kp [D1] H5 H' ∧ Same H5 H' ∧ H' D1 = some (.lst (((List.zipWith max tops (Am p).note).take i).map V.int))) ⟨.new nD, same_new nD, upd_same⟩ (fun i H' _ h => ⟨h.2.1.seq (sqL htp5), .inl (.inl (h.2.1 _ _ a2))⟩) ?_ ?_
    · rintro i2 x HD HE hi2 ⟨kD, sD, hD⟩ ⟨T', x1, y1, rfl, nT, rfl, e1, e2⟩
      obtain ⟨z1, hz1, rfl⟩ := map_int_at e1
      obtain ⟨z2', hz2, rfl⟩ := map_int_at e2
      refine ⟨T', _, rfl, sqT upd_same, rfl, _, _, rfl, _, _, rfl, rfl, rfl, _, rfl, _, rfl, _, _, rfl, ?_⟩
      have nTD : T' ≠ D1 := ne_new hD nT
      refine ⟨_, (upd_ne nTD.symm).trans hD, ?_, (kD.trans (.new nT)).trans (.set ((upd_ne nTD.symm).trans hD) (by simp)), fun b o e => ?_, ?_⟩
      · rw [List.length_map]
        exact small1000 (Nat.le_trans (List.length_take_le _ _) (by omega))
      · rw [upd_ne (ne_of_none e nD), upd_ne (ne_of_none (sD _ _ e) nT)]
        exact sD _ _ e
      · rw [upd_same, zip_take hz1 hz2, List.map_append, max_int]
        rfl
    · rintro HD ⟨kD, sD, hD⟩
      have lz : (List.zipWith max tops (Am p).note).length = many := by rw [List.length_zipWith, C4.len, ll, Nat.min_self]
      rw [List.take_of_length_le (by rw [lz]; exact Nat.le_refl _)] at hD
      obtain ⟨wi, ewi, hwi, _, _⟩ := dl.W.act _ ma
      obtain ⟨zz, hzz⟩ := get_some (show wi < (List.zipWith max tops (Am p).note).length by rw [lz]; exact hwi)
      have a1D := sD _ _ a1
      refine ⟨_, rfl, _, rfl, p, _, _, _, rfl, rfl, sqT a1D, atI_nat (j := 0) rfl, D1, _, _, _, rfl, rfl, sqL hD, at_of ewi (ints_at hzz), _, rfl, p, _, _, _, rfl, rfl, sqT a1D, atI_nat (j := 1) rfl, _, _, rfl, ?_⟩
      refine ⟨_, rfl, _, rfl, p, _, _, _, rfl, rfl, sqT a1D, atI_nat (j := 0) rfl, D1, _, (Am p).who, wi, rfl, rfl, hD, ixN_of ewi (by rw [List.length_map, lz]; exact hwi), ?_⟩
      have nDH : H D1 = none := k05.dm D1 nD
      have nDT := T.neT nDH
      refine ⟨_, _, D1, (List.zipWith max tops (Am p).note).set wi (max zz (Am p).num), rfl, nDH, ?_, Cut.step dl.W dl.inj dl.le dl.num C4 ma ewi hzz, ((T5.same sD).over nDT).mono (by omega), (k05.trans (.of sD)).over nDH⟩
      rw [upd_same, List.map_set, max_int]
  · rintro σ H4 ⟨v4, v5, tp, tops, rfl, ntp4, htp4, C4, T4, k04⟩
    have hac4 := k04.lst hac nacT
    have hA4 := hA.keep k04
    refine ⟨_, rfl, _, rfl, ac, rfl, ⟨_, sqL hac4⟩, fun D2 nD2 => ?_⟩
    refine lc_list (K := K) (a := ac) (xs := ps.map V.ref) (fun i H' => H' D2 = some (.lst ((partOf Am tops (ps.take i)).map V.ref)) ∧ Same H4 H') ⟨upd_same, same_new nD2⟩ (fun i H' _ h => sqL (h.2 _ _ hac4)) ?_ ?_
    · rintro i x H5 hi ⟨hD, s5⟩
      rw [List.getElem?_map] at hi
      obtain ⟨o, ho, rfl⟩ := Option.map_eq_some_iff.mp hi
      have mo := List.mem_of_getElem? ho
      have mA : Am o ∈ ps.map Am := List.mem_map.mpr ⟨o, mo, rfl⟩
      have htk : ps.take (i + 1) = ps.take i ++ [o] := by rw [List.take_add_one, ho]; rfl
      have es : partOf Am tops (ps.take (i + 1)) = partOf Am tops (ps.take i) ++ (if inCut tops (Am o) = true then [o] else []) := by
        unfold partOf
        rw [htk, List.filter_append, List.filter_cons, List.filter_nil]
      obtain ⟨⟨n1, q1, o1, o2, o3⟩, _⟩ := hA4.keep (S := []) (.of s5) o mo
      obtain ⟨wi, ewi, hwi, _, _⟩ := dl.W.act _ mA
      obtain ⟨zz, hzz⟩ := get_some (show wi < tops.length by rw [C4.len]; exact hwi)
      have ec : inCut tops (Am o) = decide ((Am o).num ≤ zz) := by
        unfold inCut
        rw [show (Am o).who.toNat = wi by omega, getD_of hzz]
      refine ⟨rfl, _, rfl, o, _, _, _, rfl, rfl, sqT o1, atI_nat (j := 1) rfl, _, rfl, _, rfl, o, _, _, _, rfl, rfl, sqT o1, atI_nat (j := 0) rfl, tp, _, _, _, rfl, rfl, sqL (s5 _ _ htp4), at_of ewi (ints_at hzz), _, _, rfl, rfl, _, rfl, ite2 (fun c => ?_) (fun c => ?_)⟩
      · have c' : inCut tops (Am o) = true := ec.trans c
        rw [if_pos c'] at es
        have hDl : (partOf Am tops (ps.take i)).length ≤ ps.length := Nat.le_trans (List.length_filter_le _ _) (List.length_take_le' _ _)
        refine ⟨_, rfl, _, hD, ?_, ?_, fun b u e => ?_⟩
        · rw [List.length_map]
          exact small1000 (Nat.le_trans hDl hps)
        · rw [es, upd_same, List.map_append]
          rfl
        · rw [upd_ne (ne_of_none e nD2)]
          exact s5 _ _ e
      · have c' : ¬ inCut tops (Am o) = true := fun z => c (ec.symm.trans z)
        rw [if_neg c', List.append_nil] at es
        rw [es]
        exact ⟨hD, s5⟩
    rintro H5 ⟨hD, s5⟩
    rw [List.length_map, List.take_of_length_le (Nat.le_refl _)] at hD
    refine ⟨(by show 2 ≤ sizeLine; decide), fun r nr => ?_⟩
    have s6 := s5.trans (same_new (o := .lst [.ref tp, .ref D2]) nr)
    exact out _ r tp D2 tops (k04.dm r (s5.free nr)) ntp4 (k04.dm D2 nD2) upd_same (s6 _ _ htp4) (same_new nr _ _ hD) C4 ((T4.same s6).mono (by omega)) (k04.trans (.of s6))
end
end FR

namespace FR
open PySem PySem.Spec PyProof.Rows L2 SrtO
theorem eqv_mark {a b : Act} (h : PyData.eqv a.data b.data = true) : a.mark = b.mark := by
  unfold Act.data at h
  simp [PyData.eqv, PyData.eqvAll] at h
  exact Prod.ext h.1 h.2.1
theorem decks_any {A : Addr → Act} {qs : List Addr} {o : Addr} (hf : ∀ p ∈ qs, (A p).what.Fit) (m : o ∈ qs) : ((qs.map fun p => (A p).data).any fun z => PyData.eqv z (A o).data) = true := by
  rw [List.any_eq_true]
  exact ⟨(A o).data, List.mem_map.mpr ⟨o, m, rfl⟩, Act.eqv (hf o m)⟩
theorem decks_none {A : Addr → Act} {ps qs : List Addr} {o : Addr} (nd : (ps.map fun p => (A p).mark).Nodup) (sub : ∀ q ∈ qs, q ∈ ps) (mo : o ∈ ps) (m : o ∉ qs) : ((qs.map fun p => (A p).data).any fun z => PyData.eqv z (A o).data) = false := by
  rw [List.any_eq_false]
  intro z mz
  obtain ⟨q, mq, rfl⟩ := List.mem_map.mp mz
  intro h
  have e := marks_inj nd q (sub q mq) o mo (eqv_mark h)
  exact m (e ▸ mq)
theorem cut_sub {xs : List V} {lo hi : Option Int} : ∀ y ∈ cutV xs lo hi, y ∈ xs := fun y m => by
  unfold cutV at m
  exact List.mem_of_mem_drop (List.mem_of_mem_take m)
theorem cut_len {xs : List V} {lo : Option Int} {k : Nat} : (cutV xs none (some (k : Int))).length ≤ k := by
  rw [cut_take]
  exact List.length_take_le _ _
theorem at_last {xs : List V} {v : V} (h : xs[xs.length - 1]? = some v) : atI xs (-1) = some v := by
  have hl : xs.length - 1 < xs.length := (List.getElem?_eq_some_iff.mp h).1
  have e : ixN xs.length (-1) = some (xs.length - 1) := by
    unfold ixN
    rw [if_neg (by decide), if_pos (by omega)]
    congr 1
    omega
  unfold atI
  rw [e]
  exact h
theorem seq_kp {K : PySem.W.Frag} {S : List Addr} {H H' : Hp} {a : Addr} {xs : List V} (h : SqL K H a xs) (k : Kp S H H') (f : ∀ b ∈ S, H b = none) : SqL K H' a xs := by
  have ne : ∀ o, H a = some o → a ∉ S := fun o e m => by
    rw [f a m] at e
    cases e
  rcases h with (h | ⟨o, h⟩) | h
  · exact .inl (.inl (k.kp _ _ h (ne _ h)))
  · exact .inl (.inr ⟨o, k.kp _ _ h (ne _ h)⟩)
  · exact .inr h
theorem more_good {many : Nat} {as : List Act} {D : Nat → Int} {tops : List Int} (C : Cut many as D tops) {i : Nat} (hi : i < many) {c : Int} (hc : tops[i]? = some c) : (moreOf tops i).good many := by
  have c0 : 0 ≤ c := C.pos c (List.mem_of_getElem? hc)
  refine ⟨?_, ?_, rfl⟩
  · unfold Act.markOk moreOf
    simp only [Bool.and_eq_true, decide_eq_true_eq]
    rw [getD_of hc]
    omega
  · unfold Act.noteOk moreOf
    simp only [Bool.and_eq_true, decide_eq_true_eq, List.all_eq_true]
    refine ⟨by rw [C.len], fun x m => C.pos x m, ?_⟩
    rw [Int.toNat_natCast]
    omega
theorem more_fit {tops : List Int} {i : Nat} : (moreOf tops i).what.Fit := ⟨by decide +kernel, by decide +kernel⟩
abbrev nLaw : List Str := ["script", "tray", "many", "acts", "turn", "top", "part", "act", "who", "more", "other"]
section
variable {P : Program} {w : World} {K : PySem.W.Frag} {mg : Str → Option Value} {base : Heap}
theorem scLaw : FnScope nLaw ["script"] (defScope sLaw) := ⟨rfl, rfl, rfl, by decide +kernel, rfl, by decide +kernel, by decide +kernel⟩
theorem ok_law {f fT fM fW fS fZ fI fL fP fH fK : Addr} {fd fdT fdM fdW fdS fdZ fdI fdL fdP fdH fdK : FuncData} {k : Nat} (F : Fun K "law" "law" sLaw f fd) (T : Cal P w K mg base k "_law_tray" ["script"] (spTray K) fT fdT) (M : Cal P w K mg base k "_law_most" ["tray"] spMost fM fdM)
    (W : Cal P w K mg base k "_law_world" ["tray", "most"] spWorld fW fdW) (Sh : Cal P w K mg base k "_law_shuffled" ["tray", "rows"] spShuf fS fdS) (Z : Cal P w K mg base k "size" ["deed"] spSize fZ fdZ) (I : Cal P w K mg base k "in_order" ["deeds"] (spIn K) fI fdI) (L : Cal P w K mg base k "look" ["members", "deed"] spLook fL fdL)
    (Pa : Cal P w K mg base k "_law_part" ["tray", "many", "acts"] spPart fP fdP) (Hs : Cal P w K mg base k "has_seen" ["deed", "mark"] spSeen fH fdH) (Mk : Cal P w K mg base k "mark" ["deed"] spMark fK fdK) (B : Blt mg) : FnOk P w K mg base CX0 (k + 1) f fd ["script"] (spLaw K) := by
  refine F.ok scLaw (fun vs H Q E h => ?_) (fun cdv A outer s H vs Q E hr h => ?_)
  · obtain ⟨a, ns, rfl, _⟩ := h
    rfl
  obtain ⟨a, ns, rfl, hS, h63, q⟩ := h
  refine ⟨_, pss_cons (ps_set (i := 1) scLaw.nd rfl (.inl rfl) (pe_call T.ok hr (by rfl) T.m T.kp T.b .nil pass0 (pa_cons (pv 0) pa_nil)))
    (pss_cons (ps_asg (pe_call W.ok hr (by rfl) W.m W.kp W.b .nil pass0 (pa_cons (pv 1) (pa_cons (pe_call M.ok hr (by rfl) M.m M.kp M.b .nil pass0 (pa_cons (pv 1) pa_nil)) pa_nil)))
        (pg_unl rfl (pgs_cons (pg_name (i := 2) scLaw.nd rfl (.inl rfl)) (pgs_cons (pg_name (i := 3) scLaw.nd rfl (.inl rfl)) pgs_nil))))
    (pss_cons (ps_for PassesOwn.never rfl (pi_range1 (by rfl) B.range (pa_cons (pe_op op_add pe_int (pe_callB call_len_seq (by rfl) B.len PySem.boot_len (pa_cons (pe_slice sl_list (pv 0) po_none (po_some pe_int)) pa_nil))) pa_nil)) (pg_name (i := 4) scLaw.nd rfl (.inl rfl))
      (pss_cons (ps_asg (pe_call Pa.ok hr (by rfl) Pa.m Pa.kp Pa.b .nil pass0 (pa_cons (pv 1) (pa_cons (pv 2) (pa_cons (pv 3) pa_nil))))
        (pg_unl rfl (pgs_cons (pg_name (i := 5) scLaw.nd rfl (.inl rfl)) (pgs_cons (pg_name (i := 6) scLaw.nd rfl (.inr rfl)) pgs_nil))))
      (pss_cons (ps_if (pt_cmpR (op_neD hr.units) (pe_call I.ok hr (by rfl) I.m I.kp I.b .nil pass0 (pa_cons (pe_call Sh.ok hr (by rfl) Sh.m Sh.kp Sh.b .nil pass0 (pa_cons (pv 1) (pa_cons (pv 6) pa_nil))) pa_nil))
          (pe_lc (own := [("act", 7)]) (g := gName 7) rfl scLaw.nd (pi_list (pe_call I.ok hr (by rfl) I.m I.kp I.b .nil pass0 (pa_cons (pv 3) pa_nil)))
            (blkOk_by (N := nLaw) (sc := defScope sLaw) (by decide +kernel)) (fun _ _ _ _ _ => pg_name (i := 7) scLaw.nd rfl (Or.inl rfl))
            (fun _ _ _ _ _ => pts_one (pt_cmpR (op_inD (Room.units65 hr) : OpR _ _ (rInD K)) (pv 7) (pv 6) (by rfl)))
            (fun _ _ _ _ _ => pv 7)) (nomark _)) (pss_one (ps_ret pe_bl)) pss_nil)
      (pss_cons (ps_for PassesOwn.never rfl (pi_list (pe_slice sl_list (pv 6) (po_some (pe_un un_neg pe_int)) po_none)) (pg_name (i := 7) scLaw.nd rfl (.inr rfl))
        (pss_one (ps_if (pt_cmpR (op_neD hr.units) (pe_lc (own := [("other", 10)]) (g := gName 10) rfl scLaw.nd (pi_list (pv 3))
            (blkOk_by (N := nLaw) (sc := defScope sLaw) (by decide +kernel)) (fun _ _ _ _ _ => pg_name (i := 10) scLaw.nd rfl (Or.inl rfl))
            (fun _ _ _ _ _ => pts_one (PW.pt (pw_and (pt_val (pe_call Hs.ok hr (by rfl) Hs.m Hs.kp Hs.b .nil pass0 (pa_cons (pv 7) (pa_cons (pe_call Mk.ok hr (by rfl) Mk.m Mk.kp Mk.b .nil pass0 (pa_cons (pv 10) pa_nil)) pa_nil))))
              (pw_and1 (pt_cmpR (op_notInD (Room.units65 hr) : OpR _ _ (rNotInD K)) (pv 10) (pv 6) (by rfl))))))
            (fun _ _ _ _ _ => pv 10)) (pe_lst pa_nil) (nomark _)) (pss_one (ps_ret pe_bl)) pss_nil)))
      (pss_one (ps_for PassesOwn.never rfl (pi_range1 (by rfl) B.range (pa_cons (pv 2) pa_nil)) (pg_name (i := 8) scLaw.nd rfl (.inl rfl))
        (pss_cons (ps_set (i := 9) scLaw.nd rfl (.inr rfl) (pe_tup (pa_cons (pv 8) (pa_cons (pe_op op_add (pe_ix ix_list (pv 5) (pv 8) (fun _ _ => rfl)) pe_int) (pa_cons (pe_callTy call_tuple_of (by rfl) B.tuple (by decide +kernel) (pa_cons (pv 5) pa_nil))
            (pa_cons (pe_tup (pa_cons pe_str (pa_cons pe_str (pa_cons pe_str pa_nil)))) pa_nil))))))
        (pss_cons (ps_if (PW.pt (pw_or (pt_cmpR op_notN (pe_call L.ok hr (by rfl) L.m L.kp L.b .nil pass0 (pa_cons (pv 2) (pa_cons (pv 9) pa_nil))) pe_non (nomark _))
            (pw_or1 (pt_cmpR op_ne (pe_call Z.ok hr (by rfl) Z.m Z.kp Z.b .nil pass0 (pa_cons (pv 9) pa_nil)) (pe_callB call_len_seq (by rfl) B.len PySem.boot_len (pa_cons (pv 6) pa_nil)) (nomark _))))) (pss_one (ps_ret pe_bl)) pss_nil)
        (pss_cons (ps_if (pt_cmpR (op_neD hr.units) (pe_lc (own := [("act", 7)]) (g := gName 7) rfl scLaw.nd (pi_list (pv 6))
            (blkOk_by (N := nLaw) (sc := defScope sLaw) (by decide +kernel)) (fun _ _ _ _ _ => pg_name (i := 7) scLaw.nd rfl (Or.inl rfl))
            (fun _ _ _ _ _ => pts_one (PW.pt (pw_or (pt_cmpR op_ge (pe_call Z.ok hr (by rfl) Z.m Z.kp Z.b .nil pass0 (pa_cons (pv 7) pa_nil)) (pe_call Z.ok hr (by rfl) Z.m Z.kp Z.b .nil pass0 (pa_cons (pv 9) pa_nil)) (nomark _))
              (pw_or1 (pt_not (pt_val (pe_call Hs.ok hr (by rfl) Hs.m Hs.kp Hs.b .nil pass0 (pa_cons (pv 9) (pa_cons (pe_call Mk.ok hr (by rfl) Mk.m Mk.kp Mk.b .nil pass0 (pa_cons (pv 7) pa_nil)) pa_nil)))))))))
            (fun _ _ _ _ _ => pv 7)) (pe_lst pa_nil) (nomark _)) (pss_one (ps_ret pe_bl)) pss_nil)
        (pss_one (ps_if (pt_cmpR (op_neD hr.units) (pe_ix ix_list (pe_call I.ok hr (by rfl) I.m I.kp I.b .nil pass0 (pa_cons (pe_op op_cat (pv 6) (pe_lst (pa_cons (pv 9) pa_nil))) pa_nil)) (pe_un un_neg pe_int) (fun _ _ => rfl)) (pv 9) (nomark _)) (pss_one (ps_ret pe_bl)) pss_nil)))))))))))
    (pss_one (ps_ret pe_bl)))), ?_⟩
  refine ⟨_, rfl, a, ns, rfl, hS, h63, fun t g H1 s1 nt ng T1 => ?_⟩
  refine ⟨_, rfl, _, rfl, t, g, 0, rfl, T1, by decide, fun H2 most m0 m110 T2 k2 => ?_⟩
  refine ⟨t, g, 1, most, rfl, T2, m0, by omega, by decide, fun H3 r ac ps many acts known b1 b6 hlen wd nr nac nrT nacT hr3 hac ha T3 k3 => ?_⟩
  refine ⟨r, _, rfl, sqL hr3, rfl, _, _, rfl, _, _, rfl, rfl, ?_⟩
  have hpl := paired_len ha
  have fit3 : ∀ a ∈ acts, a.what.Fit := fun a m => (wd.plain a m).2.2
  obtain ⟨hA, eA⟩ := acts_of ha fit3
  have nd3 : (ps.map fun p => (actOf H3 p).mark).Nodup := by
    have q := wd.own.2
    rw [eA, List.map_map] at q
    exact q
  have wo := wd.world
  have wi := wd.wide
  rw [eA] at wo wi
  have hS3 : SqL K H3 a (ns.map V.int) := seq_kp hS (((Kp.of s1).trans k2).trans k3) fun b m => by
    simp only [List.mem_cons, List.not_mem_nil, or_false] at m
    rcases m with rfl | rfl
    · exact nt
    · exact ng
  have fitw : (Act.what ⟨0, 0, [], .use "a" "b"⟩).Fit := ⟨by decide +kernel, by decide +kernel⟩
  generalize actOf H3 = Am at hA nd3 wo wi
  have dl : Deals many (ps.map Am) (diag known) := by
    refine ⟨wi, fun x mx y my e => ?_, wo.le, fun x mx => ?_, wo.pos⟩
    · obtain ⟨p, mp, rfl⟩ := List.mem_map.mp mx
      obtain ⟨o, mo, rfl⟩ := List.mem_map.mp my
      rw [marks_inj nd3 p mp o mo e]
    · obtain ⟨i, ei, _, _, h2, _⟩ := wo.act x mx
      rw [show x.who.toNat = i by omega]
      exact h2
  have cnt : ∀ tops, Cut many (ps.map Am) (diag known) tops → (((ps.map Am).countP (inCut tops) : Nat) : Int) = tops.sum := fun tops C => wo.cnt tops C.len fun i x hx => ⟨C.pos x (List.mem_of_getElem? hx), C.le i x hx⟩
  -- for turn in range(..)
  refine ⟨_, rfl, 3, rfl, a, _, rfl, hS3, fun l0 nl0 => ?_⟩
  have lc3 : (cutV (ns.map V.int) none (some 3)).length ≤ 3 := cut_len (lo := none) (k := 3)
  generalize cutV (ns.map V.int) none (some 3) = cs0 at lc3 ⊢
  have sl0 := same_new (o := .lst cs0) nl0
  have k30 : Kp [t, g] H3 (upd H3 l0 (.lst cs0)) := .of sl0
  have T30 := T3.same sl0
  have hl0 : upd H3 l0 (.lst cs0) l0 = some (.lst cs0) := upd_same
  generalize upd H3 l0 (.lst cs0) = H30 at k30 T30 hl0 ⊢
  refine ⟨l0, _, rfl, .inl (sqL hl0), _, _, rfl, rfl, 1 + (cs0.length : Int), rfl, by omega, by omega, for_range (lo := 0) (n := (1 + (cs0.length : Int)).toNat) (fun i σ H' => ∃ v4 v5 v6 v7 v8 v9, σ = [some (.ref a), some (.ref t), some (.int (many : Int)), some (.ref ac), v4, v5, v6, v7, v8, v9, none] ∧ TrayAt H' t g (2400 + 200 * i) ∧ Kp [t, g] H3 H')
    ⟨none, none, none, none, none, none, rfl, T30.mono (by omega), k30⟩ ?_ ?_⟩
  · rintro i σ H4 hi ⟨v4, v5, v6, v7, v8, v9, rfl, T4, k34⟩
    have hac4 := k34.lst hac nacT
    have hA4 := hA.keep k34
    refine ⟨_, rfl, _, rfl, _, rfl, t, g, ac, _, many, ps, Am, diag known, rfl, T4, by omega, b1, b6, hac4, nacT, hA4, dl, by omega, fun H5 r2 tp pt tops nr2 ntp npt hr2 htp hpt C5 T5 k5 => ?_⟩
    refine ⟨r2, _, rfl, sqL hr2, rfl, _, _, rfl, _, _, rfl, rfl, ?_⟩
    have ntpT := T4.neT ntp
    have nptT := T4.neT npt
    have hA5 := hA4.keep k5
    have psub : ∀ {o qs}, o ∈ partOf Am tops qs → o ∈ qs ∧ inCut tops (Am o) = true := fun m => List.mem_filter.mp m
    have plen : (partOf Am tops ps).length ≤ ps.length := List.length_filter_le _ _
    have hP5 : Acts Am H5 (partOf Am tops ps) := hA5.sub fun o m => (psub m).1
    -- in_order of the part
    refine ⟨_, rfl, _, rfl, t, g, pt, _, partOf Am tops ps, Am, rfl, T5, by omega, hpt, hP5, by omega, fun H6 hd hs nhd hhd hsp T6 k6 => ?_⟩
    have hA6 := hA5.keep k6
    refine ⟨hd, hs, Am, rfl, sqL hhd, (hP5.keep k6).perm hsp, fun q1 qs1 H7 s7 nq1 hq1 qsp1 qpl1 => ?_⟩
    have hA7 := hA6.keep (S := []) (.of s7)
    have k37 : Kp [t, g] H3 H7 := ((k34.trans k5).trans k6).trans (.of s7)
    have hac7 := k37.lst hac nacT
    have hpt7 := s7 _ _ (k6.lst hpt nptT)
    have htp7 := s7 _ _ (k6.lst htp ntpT)
    refine ⟨_, rfl, ac, ps, Am, rfl, sqL hac7, hA7, fun rw0 rs H8 s8 nrw hrw rsp rpl => ?_⟩
    refine ⟨rw0, rfl, ⟨_, sqL hrw⟩, fun D1 nD1 => ?_⟩
    refine lc_list (K := K) (a := rw0) (xs := rs.map V.ref) (fun i H' => H' D1 = some (.lst ((partOf Am tops (rs.take i)).map V.ref)) ∧ Same H8 H') ⟨upd_same, same_new nD1⟩ (fun i H' _ h => sqL (h.2 _ _ hrw)) ?_ ?_
    · rintro i2 x H9 hi2 ⟨hD, s9⟩
      rw [List.getElem?_map] at hi2
      obtain ⟨o, ho, rfl⟩ := Option.map_eq_some_iff.mp hi2
      have mo := List.mem_of_getElem? ho
      have mo2 := rsp.mem_iff.mp mo
      have htk : rs.take (i2 + 1) = rs.take i2 ++ [o] := by rw [List.take_add_one, ho]; rfl
      have es : partOf Am tops (rs.take (i2 + 1)) = partOf Am tops (rs.take i2) ++ (if inCut tops (Am o) = true then [o] else []) := by
        unfold partOf
        rw [htk, List.filter_append, List.filter_cons, List.filter_nil]
      have A9 := hA7.keep (S := []) (.of (s8.trans s9))
      have P9 : Acts Am H9 (partOf Am tops ps) := A9.sub fun o m => (psub m).1
      refine ⟨rfl, _, rfl, _, rfl, (Am o).data, (partOf Am tops ps).map fun q => (Am q).data, (A9 o mo2).1.dp, P9.deck ((s8.trans s9) _ _ hpt7), Act.shaped (A9.fit o mo2), decks_shaped P9.fit, _, rfl, ?_⟩
      cases c : inCut tops (Am o) with
      | true =>
        rw [if_pos c] at es
        rw [decks_any P9.fit (List.mem_filter.mpr ⟨mo2, c⟩)]
        have hDl : (partOf Am tops (rs.take i2)).length ≤ rs.length := Nat.le_trans (List.length_filter_le _ _) (List.length_take_le' _ _)
        refine iteT ⟨_, rfl, _, hD, ?_, ?_, fun b u e => ?_⟩
        · rw [List.length_map]
          exact small1000 (Nat.le_trans hDl (by rw [rsp.length_eq]; omega))
        · rw [es, upd_same, List.map_append]
          rfl
        · rw [upd_ne (ne_of_none e nD1)]
          exact s9 _ _ e
      | false =>
        rw [if_neg (by rw [c]; exact Bool.false_ne_true), List.append_nil] at es
        rw [decks_none nd3 (fun q m => (psub m).1) mo2 (fun m => by
          have z := (psub m).2
          rw [c] at z
          cases z)]
        rw [es]
        exact iteF ⟨hD, s9⟩
    rintro H9 ⟨hD, s9⟩
    rw [List.length_map, List.take_of_length_le (Nat.le_refl _)] at hD
    have s79 := s8.trans s9
    have A9 := hA7.keep (S := []) (.of s79)
    have rnd : (rs.map fun p => (Am p).mark).Nodup := ((rsp.map _).nodup_iff).mpr nd3
    have eq1 : qs1 = partOf Am tops rs := placed_uniq (rnd.sublist (List.filter_sublist.map _)) ((qsp1.trans hsp).trans (rsp.symm.filter _)) (rpl.filter _) qpl1
    have P9 : Acts Am H9 (partOf Am tops rs) := A9.sub fun o m => rsp.mem_iff.mp (psub m).1
    rw [eq1] at hq1
    refine ⟨decks Am (partOf Am tops rs), decks Am (partOf Am tops rs), P9.deck (s79 _ _ hq1), P9.deck hD, decks_shaped P9.fit, decks_shaped P9.fit, _, rfl, ?_⟩
    rw [decks_eqv P9.fit]
    refine iteF ?_
    have hac9 := s79 _ _ hac7
    have hpt9 := s79 _ _ hpt7
    have htp9 := s79 _ _ htp7
    have T9 := (T6.same s7).same s79
    have k39 : Kp [t, g] H3 H9 := k37.trans (.of s79)
    have inA : ∀ {o}, o ∈ ps → Am o ∈ ps.map Am := fun m => List.mem_map.mpr ⟨_, m, rfl⟩
    -- for act in part[-20:]
    refine ⟨_, rfl, _, rfl, _, rfl, pt, _, rfl, sqL hpt9, fun l1 nl1 => ?_⟩
    have csub : ∀ y ∈ cutV ((partOf Am tops ps).map V.ref) (some (-20)) none, ∃ o, y = V.ref o ∧ o ∈ partOf Am tops ps := fun y m => by
      obtain ⟨o, mo, rfl⟩ := List.mem_map.mp (cut_sub y m)
      exact ⟨o, rfl, mo⟩
    generalize cutV ((partOf Am tops ps).map V.ref) (some (-20)) none = cs at csub ⊢
    have sl1 := same_new (o := .lst cs) nl1
    have hl1 : upd H9 l1 (.lst cs) l1 = some (.lst cs) := upd_same
    generalize upd H9 l1 (.lst cs) = HA at sl1 hl1 ⊢
    refine ⟨l1, rfl, ⟨_, sqL hl1⟩, for_list (K := K) (a := l1) (xs := cs) (fun j σ H' => ∃ v7, σ = [some (.ref a), some (.ref t), some (.int (many : Int)), some (.ref ac), some (.int (0 + (i : Int))), some (.ref tp), some (.ref pt), v7, v8, v9, none] ∧ Same HA H')
      ⟨_, rfl, .refl _⟩ (fun i σ H' _ ⟨_, _, h⟩ => sqL (h _ _ hl1)) ?_ ?_⟩
    · rintro j y σ HB hj ⟨v7', rfl, sB⟩
      obtain ⟨p, rfl, mP⟩ := csub y (List.mem_of_getElem? hj)
      obtain ⟨mp, cp⟩ := psub mP
      have s9B := sl1.trans sB
      refine ⟨_, rfl, ac, rfl, ⟨_, sqL (s9B _ _ hac9)⟩, fun D2 nD2 => ?_⟩
      refine lc_list (K := K) (a := ac) (xs := ps.map V.ref) (fun i H' => Same (upd HB D2 (.lst [])) H') (.refl _) (fun i H' _ h => sqL (h _ _ (same_new nD2 _ _ (s9B _ _ hac9)))) ?_ ?_
      · rintro i2 x HC hi2 sC
        rw [List.getElem?_map] at hi2
        obtain ⟨o, ho, rfl⟩ := Option.map_eq_some_iff.mp hi2
        have mo := List.mem_of_getElem? ho
        have s9C := (s9B.trans (same_new nD2)).trans sC
        have AC := A9.keep (S := []) (.of s9C)
        refine ⟨rfl, _, rfl, _, rfl, o, Am o, rfl, (AC o mo).1, fun mq HD sD nm em => ?_⟩
        have s9D := s9C.trans sD
        have AD := A9.keep (S := []) (.of s9D)
        refine ⟨p, mq, Am p, _, _, rfl, (AD p mp).1, em, _, rfl, ite2 (fun c => ?_) (fun c => ?_)⟩
        · have c' : (Am p).sees (Am o) = true := c
          have PD : Acts Am HD (partOf Am tops ps) := AD.sub fun o m => (psub m).1
          have mo2 : o ∈ partOf Am tops ps := List.mem_filter.mpr ⟨mo, C5.seen dl.W (inA mp) (inA mo) cp c'⟩
          refine ⟨_, rfl, _, rfl, (Am o).data, (partOf Am tops ps).map fun q => (Am q).data, (AD o mo).1.dp, PD.deck (s9D _ _ hpt9), Act.shaped (AD.fit o mo), decks_shaped PD.fit, _, rfl, ?_⟩
          rw [decks_any PD.fit mo2]
          exact iteF (sC.trans sD)
        · exact iteF (sC.trans sD)
      intro HC sC
      refine ⟨Nat.zero_le _, fun z nz => ?_⟩
      refine ⟨.list [], .list [], .lst (sqL (same_new nz _ _ (sC _ _ upd_same))) .nil, .lst (sqL upd_same) .nil, by decide +kernel, by decide +kernel, _, rfl, ?_⟩
      rw [show PyData.eqv (.list []) (.list []) = true from rfl]
      exact iteF ⟨_, rfl, (sB.trans ((same_new nD2).trans sC)).trans (same_new nz)⟩
    rintro σ HB ⟨v7', rfl, sB⟩
    have s9B := sl1.trans sB
    -- for who in range(many)
    refine ⟨_, rfl, (many : Int), rfl, by omega, by omega, for_range (lo := 0) (n := ((many : Nat) : Int).toNat) (fun j σ H' => ∃ v7 v8 v9, σ = [some (.ref a), some (.ref t), some (.int (many : Int)), some (.ref ac), some (.int (0 + (i : Int))), some (.ref tp), some (.ref pt), v7, v8, v9, none] ∧ Same H9 H')
      ⟨_, _, _, rfl, s9B⟩ ?_ ?_⟩
    · rintro wi2 σ HC hwi ⟨v7'', v8', v9', rfl, s9C⟩
      rw [Int.toNat_natCast] at hwi
      rw [Int.zero_add (wi2 : Int)]
      obtain ⟨c, hc⟩ := get_some (show wi2 < tops.length by rw [C5.len]; exact hwi)
      refine ⟨_, rfl, _, rfl, _, rfl, tp, _, _, _, rfl, rfl, sqL (s9C _ _ htp9), at_of (j := wi2) rfl (ints_at hc), _, _, rfl, rfl, _, rfl, tp, _, rfl, .inl ⟨sqL (s9C _ _ htp9), fun nn nnn => ?_⟩⟩
      refine ⟨(by show 3 ≤ sizeLine; decide), fun qa nq => (?_ : _ ∧ _)⟩
      refine ⟨(by show 4 ≤ sizeLine; decide), fun m0 nm0 => ?_⟩
      have t1 := same_new (o := .tup (tops.map V.int)) nnn
      have t2 := same_new (o := .tup [.str "use", .str "a", .str "b"]) nq
      have t3 := same_new (o := .tup [.int (wi2 : Int), .int (c + 1), .ref nn, .ref qa]) nm0
      have m9 : H9 m0 = none := (s9C.trans (t1.trans t2)).free nm0
      have s9D := s9C.trans ((t1.trans t2).trans t3)
      have hm : ActAt (upd (upd (upd HC nn (.tup (tops.map V.int))) qa (.tup [.str "use", .str "a", .str "b"])) m0 (.tup [.int (wi2 : Int), .int (c + 1), .ref nn, .ref qa])) m0 (moreOf tops wi2) := by
        refine ⟨nn, qa, ?_, (t2.trans t3) _ _ upd_same, t3 _ _ upd_same⟩
        rw [upd_same]
        unfold moreOf
        simp only
        rw [getD_of hc]
      generalize upd (upd (upd HC nn (.tup (tops.map V.int))) qa (.tup [.str "use", .str "a", .str "b"])) m0 (.tup [.int (wi2 : Int), .int (c + 1), .ref nn, .ref qa]) = HD at s9D hm ⊢
      have mp : m0 ∉ ps := fun m => by
        obtain ⟨⟨n1, q1', e1, _⟩, _⟩ := A9 m0 m
        rw [m9] at e1
        cases e1
      have good := more_good C5 hwi hc
      -- look(many, more) is not None or size(more) != len(part)
      refine ⟨_, rfl, _, rfl, m0, many, moreOf tops wi2, rfl, hm, b1, good, fun HE sE => ?_⟩
      refine ⟨rfl, _, rfl, iteNS rfl ?_⟩
      have hmE := hm.keep (S := []) (.of sE)
      have s9E := s9D.trans sE
      have epart : (((partOf Am tops ps).map V.ref).length : Int) = tops.sum := by
        rw [← cnt tops C5, List.length_map]
        unfold partOf
        rw [← List.countP_eq_length_filter, List.countP_map]
        rfl
      refine ⟨_, rfl, m0, moreOf tops wi2, rfl, hmE, _, rfl, pt, _, rfl, .inl (SqL.of (s9E _ _ hpt9)), rfl, _, rfl, iteNS (by rw [epart]; rfl) ?_⟩
      -- act for act in part if ..
      refine ⟨_, rfl, pt, rfl, ⟨_, sqL (s9E _ _ hpt9)⟩, fun D3 nD3 => ?_⟩
      refine lc_list (K := K) (a := pt) (xs := (partOf Am tops ps).map V.ref) (fun i H' => Same (upd HE D3 (.lst [])) H') (.refl _) (fun i H' _ h => sqL (h _ _ (same_new nD3 _ _ (s9E _ _ hpt9)))) ?_ ?_
      · rintro i2 x HF hi2 sF
        rw [List.getElem?_map] at hi2
        obtain ⟨o, ho, rfl⟩ := Option.map_eq_some_iff.mp hi2
        obtain ⟨mo, co⟩ := psub (List.mem_of_getElem? ho)
        have sEF := (same_new nD3).trans sF
        have s9F := s9E.trans sEF
        have AF := A9.keep (S := []) (.of s9F)
        have hmF := hmE.keep (S := []) (.of sEF)
        have less := C5.less dl.W (inA mo) co
        refine ⟨rfl, _, rfl, o, Am o, rfl, (AF o mo).1, _, rfl, m0, moreOf tops wi2, rfl, hmF, _, _, rfl, rfl, _, rfl, ?_⟩
        rw [decide_eq_false (show ¬ (moreOf tops wi2).note.sum ≤ (Am o).note.sum from fun z => by
          have z2 : tops.sum ≤ (Am o).note.sum := z
          omega)]
        refine iteF ⟨_, rfl, _, rfl, o, Am o, rfl, (AF o mo).1, fun mq HG sG nm em => ⟨m0, mq, moreOf tops wi2, _, _, rfl, hmF.keep (S := []) (.of sG), em, _, rfl, ?_⟩⟩
        rw [show (moreOf tops wi2).seen (Am o).who (Am o).num = true from (C5.more_sees dl.W wi2 (inA mo)).trans co]
        exact iteF (sF.trans sG)
      intro HF sF
      refine ⟨Nat.zero_le _, fun z nz => ?_⟩
      refine ⟨.list [], .list [], .lst (sqL (same_new nz _ _ (sF _ _ upd_same))) .nil, .lst (sqL upd_same) .nil, by decide +kernel, by decide +kernel, _, rfl, ?_⟩
      rw [show PyData.eqv (.list []) (.list []) = true from rfl]
      refine iteF ?_
      have sEG : Same HE (upd HF z (.lst [])) := ((same_new nD3).trans sF).trans (same_new nz)
      generalize upd HF z (.lst []) = HG at sEG ⊢
      have s9G := s9E.trans sEG
      have hmG := hmE.keep (S := []) (.of sEG)
      -- in_order(part + [more])[-1] != more
      refine ⟨_, rfl, _, rfl, (by show 1 ≤ sizeLine; decide), fun l2 nl2 => ?_⟩
      have u1 := same_new (o := .lst [.ref m0]) nl2
      refine ⟨pt, l2, _, _, rfl, rfl, u1 _ _ (s9G _ _ hpt9), upd_same, ?_, fun l3 nl3 => ?_⟩
      · rw [List.length_map]
        show (partOf Am tops ps).length + 1 ≤ sizeLine
        exact Nat.le_of_lt (small1000 (by omega))
      have u2 := u1.trans (same_new (o := .lst ((partOf Am tops ps).map V.ref ++ [.ref m0])) nl3)
      have hl3 : upd (upd HG l2 (.lst [.ref m0])) l3 (.lst ((partOf Am tops ps).map V.ref ++ [.ref m0])) l3 = some (.lst ((partOf Am tops ps ++ [m0]).map V.ref)) := by
        rw [upd_same, List.map_append]
        rfl
      generalize upd (upd HG l2 (.lst [.ref m0])) l3 (.lst ((partOf Am tops ps).map V.ref ++ [.ref m0])) = HI at u2 hl3 ⊢
      have s9I := s9G.trans u2
      have AI := A9.keep (S := []) (.of s9I)
      have hmI := hmG.keep (S := []) (.of u2)
      obtain ⟨A2, eA2⟩ : ∃ A2 : Addr → Act, A2 = fun x => if x = m0 then moreOf tops wi2 else Am x := ⟨_, rfl⟩
      have a2m : A2 m0 = moreOf tops wi2 := by rw [eA2]; exact if_pos rfl
      have a2p : ∀ {o}, o ∈ ps → A2 o = Am o := fun {o} m => by
        rw [eA2]
        exact if_neg (fun e : o = m0 => mp (e ▸ m))
      have acts2 : Acts A2 HI (partOf Am tops ps ++ [m0]) := fun o m => by
        rcases List.mem_append.mp m with m | m
        · rw [a2p (psub m).1]
          exact AI o (psub m).1
        · rw [List.mem_singleton.mp m, a2m]
          exact ⟨hmI, more_fit⟩
      refine ⟨l3, partOf Am tops ps ++ [m0], A2, rfl, sqL hl3, acts2, fun q2 qs2 HJ sJ nq2 hq2 qsp2 qpl2 => ?_⟩
      have last : qs2[qs2.length - 1]? = some m0 := placed_last qpl2 (qsp2.mem_iff.mpr (by simp)) fun o mo ne => by
        have mo2 := qsp2.mem_iff.mp mo
        rcases List.mem_append.mp mo2 with m | m
        · obtain ⟨m1, m2⟩ := psub m
          rw [a2p m1, a2m]
          have less := C5.less dl.W (inA m1) m2
          unfold Act.place
          rw [HT.lexLt_cons, if_neg (show ¬ (Am o).note.sum = (moreOf tops wi2).note.sum from fun z => by
            have z2 : (Am o).note.sum = tops.sum := z
            omega)]
          exact decide_eq_true less
        · exact absurd (List.mem_singleton.mp m) ne
      have hmJ := hmI.keep (S := []) (.of sJ)
      refine ⟨_, rfl, q2, _, _, .ref m0, rfl, rfl, sqL hq2, at_last (by rw [List.length_map, List.getElem?_map, last]; rfl), ?_⟩
      refine ⟨_, rfl, (moreOf tops wi2).data, (moreOf tops wi2).data, hmJ.dp, hmJ.dp, Act.shaped more_fit, Act.shaped more_fit, _, rfl, ?_⟩
      rw [Act.eqv more_fit]
      exact iteF ⟨_, _, _, rfl, s9I.trans sJ⟩
    · rintro σ HC ⟨v7'', v8', v9', rfl, s9C⟩
      exact ⟨_, _, _, _, _, _, rfl, (T9.same s9C).mono (by omega), k39.trans (.of s9C)⟩
  · rintro σ H4 ⟨v4, v5, v6, v7, v8, v9, rfl, T4, k34⟩
    exact q _
end
end FR

namespace FR
open PySem L2
theorem all_mk {l : PySem.W.OpenLaw} {w : World} {K : PySem.W.Frag} {h : Heap} {mg : Str → Option Value} {fa f1 f2 f3 f4 f5 f6 f7 f8 f9 f10 f11 f12 f13 f14 f15 f16 f17 f18 : Addr} (X : K.In h) (G : h.Ns mainGlobals mg) (hfa : mg "law" = some (.ref fa))
    {od1 an1 od2 an2 od3 an3 od4 an4 od5 an5 od6 an6 od7 an7 od8 an8 od9 an9 od10 an10 od11 an11 od12 an12 od13 an13 od14 an14 od15 an15 od16 an16 od17 an17 od18 an18 : Option Addr} {sl1 sl2 sl3 sl4 sl5 sl6 sl7 sl8 sl9 sl10 sl11 sl12 sl13 sl14 sl15 sl16 sl17 sl18 : Array (Option Value)}
    {oc1 kV1 dc1 pm1 cd1 ct1 oc2 kV2 dc2 pm2 cd2 ct2 oc3 kV3 dc3 pm3 cd3 ct3 oc4 kV4 dc4 pm4 cd4 ct4 oc5 kV5 dc5 pm5 cd5 ct5 oc6 kV6 dc6 pm6 cd6 ct6 oc7 kV7 dc7 pm7 cd7 ct7 oc8 kV8 dc8 pm8 cd8 ct8 oc9 kV9 dc9 pm9 cd9 ct9 oc10 kV10 dc10 pm10 cd10 ct10 oc11 kV11 dc11 pm11 cd11 ct11 oc12 kV12 dc12 pm12 cd12 ct12 oc13 kV13 dc13 pm13 cd13 ct13 oc14 kV14 dc14 pm14 cd14 ct14 oc15 kV15 dc15 pm15 cd15 ct15 oc16 kV16 dc16 pm16 cd16 ct16 oc17 kV17 dc17 pm17 cd17 ct17 oc18 kV18 dc18 pm18 cd18 ct18 : Value}
    (a1 : PySem.W.nsIn K mainGlobals "look" = some (some (.ref f1))) (l1 : K.lookup f1 = some ⟨oc1, od1, .func (PySem.W.fnOf "look" "look" (defArgs sLook) (defBody sLook) (defScope sLook) .none kV1 dc1 pm1 an1 cd1 ct1), sl1⟩)
    (c1 : PySem.W.codeIn K cd1 "look" = true) (k1 : PySem.W.keepIn K (.ref f1) = true)
    (a2 : PySem.W.nsIn K mainGlobals "mark" = some (some (.ref f2))) (l2 : K.lookup f2 = some ⟨oc2, od2, .func (PySem.W.fnOf "mark" "mark" (defArgs sMark) (defBody sMark) (defScope sMark) .none kV2 dc2 pm2 an2 cd2 ct2), sl2⟩)
    (c2 : PySem.W.codeIn K cd2 "mark" = true) (k2 : PySem.W.keepIn K (.ref f2) = true)
    (a3 : PySem.W.nsIn K mainGlobals "size" = some (some (.ref f3))) (l3 : K.lookup f3 = some ⟨oc3, od3, .func (PySem.W.fnOf "size" "size" (defArgs sSize) (defBody sSize) (defScope sSize) .none kV3 dc3 pm3 an3 cd3 ct3), sl3⟩)
    (c3 : PySem.W.codeIn K cd3 "size" = true) (k3 : PySem.W.keepIn K (.ref f3) = true)
    (a4 : PySem.W.nsIn K mainGlobals "has_seen" = some (some (.ref f4))) (l4 : K.lookup f4 = some ⟨oc4, od4, .func (PySem.W.fnOf "has_seen" "has_seen" (defArgs sSeen) (defBody sSeen) (defScope sSeen) .none kV4 dc4 pm4 an4 cd4 ct4), sl4⟩)
    (c4 : PySem.W.codeIn K cd4 "has_seen" = true) (k4 : PySem.W.keepIn K (.ref f4) = true)
    (a5 : PySem.W.nsIn K mainGlobals "in_order" = some (some (.ref f5))) (l5 : K.lookup f5 = some ⟨oc5, od5, .func (PySem.W.fnOf "in_order" "in_order" (defArgs sIn) (defBody sIn) (defScope sIn) .none kV5 dc5 pm5 an5 cd5 ct5), sl5⟩)
    (c5 : PySem.W.codeIn K cd5 "in_order" = true) (k5 : PySem.W.keepIn K (.ref f5) = true)
    (a6 : PySem.W.nsIn K mainGlobals "_place" = some (some (.ref f6))) (l6 : K.lookup f6 = some ⟨oc6, od6, .func (PySem.W.fnOf "_place" "_place" (defArgs sPlace) (defBody sPlace) (defScope sPlace) .none kV6 dc6 pm6 an6 cd6 ct6), sl6⟩)
    (c6 : PySem.W.codeIn K cd6 "_place" = true) (k6 : PySem.W.keepIn K (.ref f6) = true)
    (a7 : PySem.W.nsIn K mainGlobals "_has_mark" = some (some (.ref f7))) (l7 : K.lookup f7 = some ⟨oc7, od7, .func (PySem.W.fnOf "_has_mark" "_has_mark" (defArgs sHasMark) (defBody sHasMark) (defScope sHasMark) .none kV7 dc7 pm7 an7 cd7 ct7), sl7⟩)
    (c7 : PySem.W.codeIn K cd7 "_has_mark" = true) (k7 : PySem.W.keepIn K (.ref f7) = true)
    (a8 : PySem.W.nsIn K mainGlobals "_has_note" = some (some (.ref f8))) (l8 : K.lookup f8 = some ⟨oc8, od8, .func (PySem.W.fnOf "_has_note" "_has_note" (defArgs sHasNote) (defBody sHasNote) (defScope sHasNote) .none kV8 dc8 pm8 an8 cd8 ct8), sl8⟩)
    (c8 : PySem.W.codeIn K cd8 "_has_note" = true) (k8 : PySem.W.keepIn K (.ref f8) = true)
    (a9 : PySem.W.nsIn K mainGlobals "_goes_down" = some (some (.ref f9))) (l9 : K.lookup f9 = some ⟨oc9, od9, .func (PySem.W.fnOf "_goes_down" "_goes_down" (defArgs sDown) (defBody sDown) (defScope sDown) .none kV9 dc9 pm9 an9 cd9 ct9), sl9⟩)
    (c9 : PySem.W.codeIn K cd9 "_goes_down" = true) (k9 : PySem.W.keepIn K (.ref f9) = true)
    (a10 : PySem.W.nsIn K mainGlobals "_law_tray" = some (some (.ref f10))) (l10 : K.lookup f10 = some ⟨oc10, od10, .func (PySem.W.fnOf "_law_tray" "_law_tray" (defArgs sTray) (defBody sTray) (defScope sTray) .none kV10 dc10 pm10 an10 cd10 ct10), sl10⟩)
    (c10 : PySem.W.codeIn K cd10 "_law_tray" = true) (k10 : PySem.W.keepIn K (.ref f10) = true)
    (a11 : PySem.W.nsIn K mainGlobals "_law_draw" = some (some (.ref f11))) (l11 : K.lookup f11 = some ⟨oc11, od11, .func (PySem.W.fnOf "_law_draw" "_law_draw" (defArgs sDraw) (defBody sDraw) (defScope sDraw) .none kV11 dc11 pm11 an11 cd11 ct11), sl11⟩)
    (c11 : PySem.W.codeIn K cd11 "_law_draw" = true) (k11 : PySem.W.keepIn K (.ref f11) = true)
    (a12 : PySem.W.nsIn K mainGlobals "_law_word" = some (some (.ref f12))) (l12 : K.lookup f12 = some ⟨oc12, od12, .func (PySem.W.fnOf "_law_word" "_law_word" (defArgs sWord) (defBody sWord) (defScope sWord) .none kV12 dc12 pm12 an12 cd12 ct12), sl12⟩)
    (c12 : PySem.W.codeIn K cd12 "_law_word" = true) (k12 : PySem.W.keepIn K (.ref f12) = true)
    (a13 : PySem.W.nsIn K mainGlobals "_law_what" = some (some (.ref f13))) (l13 : K.lookup f13 = some ⟨oc13, od13, .func (PySem.W.fnOf "_law_what" "_law_what" (defArgs sWhat) (defBody sWhat) (defScope sWhat) .none kV13 dc13 pm13 an13 cd13 ct13), sl13⟩)
    (c13 : PySem.W.codeIn K cd13 "_law_what" = true) (k13 : PySem.W.keepIn K (.ref f13) = true)
    (a14 : PySem.W.nsIn K mainGlobals "_law_world" = some (some (.ref f14))) (l14 : K.lookup f14 = some ⟨oc14, od14, .func (PySem.W.fnOf "_law_world" "_law_world" (defArgs sWorld) (defBody sWorld) (defScope sWorld) .none kV14 dc14 pm14 an14 cd14 ct14), sl14⟩)
    (c14 : PySem.W.codeIn K cd14 "_law_world" = true) (k14 : PySem.W.keepIn K (.ref f14) = true)
    (a15 : PySem.W.nsIn K mainGlobals "_law_most" = some (some (.ref f15))) (l15 : K.lookup f15 = some ⟨oc15, od15, .func (PySem.W.fnOf "_law_most" "_law_most" (defArgs sMost) (defBody sMost) (defScope sMost) .none kV15 dc15 pm15 an15 cd15 ct15), sl15⟩)
    (c15 : PySem.W.codeIn K cd15 "_law_most" = true) (k15 : PySem.W.keepIn K (.ref f15) = true)
    (a16 : PySem.W.nsIn K mainGlobals "_law_shuffled" = some (some (.ref f16))) (l16 : K.lookup f16 = some ⟨oc16, od16, .func (PySem.W.fnOf "_law_shuffled" "_law_shuffled" (defArgs sShuf) (defBody sShuf) (defScope sShuf) .none kV16 dc16 pm16 an16 cd16 ct16), sl16⟩)
    (c16 : PySem.W.codeIn K cd16 "_law_shuffled" = true) (k16 : PySem.W.keepIn K (.ref f16) = true)
    (a17 : PySem.W.nsIn K mainGlobals "_law_part" = some (some (.ref f17))) (l17 : K.lookup f17 = some ⟨oc17, od17, .func (PySem.W.fnOf "_law_part" "_law_part" (defArgs sPart) (defBody sPart) (defScope sPart) .none kV17 dc17 pm17 an17 cd17 ct17), sl17⟩)
    (c17 : PySem.W.codeIn K cd17 "_law_part" = true) (k17 : PySem.W.keepIn K (.ref f17) = true)
    (a18 : PySem.W.nsIn K mainGlobals "law" = some (some (.ref f18))) (l18 : K.lookup f18 = some ⟨oc18, od18, .func (PySem.W.fnOf "law" "law" (defArgs sLaw) (defBody sLaw) (defScope sLaw) .none kV18 dc18 pm18 an18 cd18 ct18), sl18⟩)
    (c18 : PySem.W.codeIn K cd18 "law" = true) (k18 : PySem.W.keepIn K (.ref f18) = true)
    (z1 : PySem.W.nsIn K mainGlobals "len" = some none)
    (z2 : PySem.W.nsIn K mainGlobals "range" = some none)
    (z3 : PySem.W.nsIn K mainGlobals "isinstance" = some none)
    (z4 : PySem.W.nsIn K mainGlobals "bool" = some none)
    (z5 : PySem.W.nsIn K mainGlobals "int" = some none)
    (z6 : PySem.W.nsIn K mainGlobals "str" = some none)
    (z7 : PySem.W.nsIn K mainGlobals "list" = some none)
    (z8 : PySem.W.nsIn K mainGlobals "tuple" = some none)
    (z9 : PySem.W.nsIn K mainGlobals "sum" = some none)
    (z10 : PySem.W.nsIn K mainGlobals "sorted" = some none)
    (z11 : PySem.W.nsIn K mainGlobals "set" = some none)
    (z12 : PySem.W.nsIn K mainGlobals "max" = some none)
    (z13 : PySem.W.nsIn K mainGlobals "zip" = some none)
    (z14 : PySem.W.nsIn K mainGlobals "min" = some none)
    : ∃ fd : FuncData, (∀ (s : Shared) (v : Value), BindsTo s fd ⟨[v], []⟩ [("script", v)]) ∧ ∀ base : Heap, K.In base → base.Ns mainGlobals mg → FnOk l.prog w K mg base CX0 7 fa fd ["script"] (spLaw K) := by
  have e := hfa.symm.trans (PySem.W.mg_of X G a18)
  cases e
  have F1 := fun_mk (st := sLook) l1 c1 k1
  have m1 := PySem.W.mg_of X G a1
  have b1 := F1.binds (ps := ["members", "deed"]) fun _ _ _ _ _ _ us hl => match us, hl with | [_, _], _ => rfl
  have F2 := fun_mk (st := sMark) l2 c2 k2
  have m2 := PySem.W.mg_of X G a2
  have b2 := F2.binds (ps := ["deed"]) fun _ _ _ _ _ _ us hl => match us, hl with | [_], _ => rfl
  have F3 := fun_mk (st := sSize) l3 c3 k3
  have m3 := PySem.W.mg_of X G a3
  have b3 := F3.binds (ps := ["deed"]) fun _ _ _ _ _ _ us hl => match us, hl with | [_], _ => rfl
  have F4 := fun_mk (st := sSeen) l4 c4 k4
  have m4 := PySem.W.mg_of X G a4
  have b4 := F4.binds (ps := ["deed", "mark"]) fun _ _ _ _ _ _ us hl => match us, hl with | [_, _], _ => rfl
  have F5 := fun_mk (st := sIn) l5 c5 k5
  have m5 := PySem.W.mg_of X G a5
  have b5 := F5.binds (ps := ["deeds"]) fun _ _ _ _ _ _ us hl => match us, hl with | [_], _ => rfl
  have F6 := fun_mk (st := sPlace) l6 c6 k6
  have m6 := PySem.W.mg_of X G a6
  have b6 := F6.binds (ps := ["deed"]) fun _ _ _ _ _ _ us hl => match us, hl with | [_], _ => rfl
  have F7 := fun_mk (st := sHasMark) l7 c7 k7
  have m7 := PySem.W.mg_of X G a7
  have b7 := F7.binds (ps := ["members", "deed"]) fun _ _ _ _ _ _ us hl => match us, hl with | [_, _], _ => rfl
  have F8 := fun_mk (st := sHasNote) l8 c8 k8
  have m8 := PySem.W.mg_of X G a8
  have b8 := F8.binds (ps := ["members", "deed"]) fun _ _ _ _ _ _ us hl => match us, hl with | [_, _], _ => rfl
  have F9 := fun_mk (st := sDown) l9 c9 k9
  have m9 := PySem.W.mg_of X G a9
  have b9 := F9.binds (ps := ["members", "deed"]) fun _ _ _ _ _ _ us hl => match us, hl with | [_, _], _ => rfl
  have F10 := fun_mk (st := sTray) l10 c10 k10
  have m10 := PySem.W.mg_of X G a10
  have b10 := F10.binds (ps := ["script"]) fun _ _ _ _ _ _ us hl => match us, hl with | [_], _ => rfl
  have F11 := fun_mk (st := sDraw) l11 c11 k11
  have m11 := PySem.W.mg_of X G a11
  have b11 := F11.binds (ps := ["tray", "many"]) fun _ _ _ _ _ _ us hl => match us, hl with | [_, _], _ => rfl
  have F12 := fun_mk (st := sWord) l12 c12 k12
  have m12 := PySem.W.mg_of X G a12
  have b12 := F12.binds (ps := ["tray"]) fun _ _ _ _ _ _ us hl => match us, hl with | [_], _ => rfl
  have F13 := fun_mk (st := sWhat) l13 c13 k13
  have m13 := PySem.W.mg_of X G a13
  have b13 := F13.binds (ps := ["tray", "who", "many", "mights"]) fun _ _ _ _ _ _ us hl => match us, hl with | [_, _, _, _], _ => rfl
  have F14 := fun_mk (st := sWorld) l14 c14 k14
  have m14 := PySem.W.mg_of X G a14
  have b14 := F14.binds (ps := ["tray", "most"]) fun _ _ _ _ _ _ us hl => match us, hl with | [_, _], _ => rfl
  have F15 := fun_mk (st := sMost) l15 c15 k15
  have m15 := PySem.W.mg_of X G a15
  have b15 := F15.binds (ps := ["tray"]) fun _ _ _ _ _ _ us hl => match us, hl with | [_], _ => rfl
  have F16 := fun_mk (st := sShuf) l16 c16 k16
  have m16 := PySem.W.mg_of X G a16
  have b16 := F16.binds (ps := ["tray", "rows"]) fun _ _ _ _ _ _ us hl => match us, hl with | [_, _], _ => rfl
  have F17 := fun_mk (st := sPart) l17 c17 k17
  have m17 := PySem.W.mg_of X G a17
  have b17 := F17.binds (ps := ["tray", "many", "acts"]) fun _ _ _ _ _ _ us hl => match us, hl with | [_, _, _], _ => rfl
  have F18 := fun_mk (st := sLaw) l18 c18 k18
  have m18 := PySem.W.mg_of X G a18
  have y1 := PySem.W.mg_none_of X G z1
  have y2 := PySem.W.mg_none_of X G z2
  have y3 := PySem.W.mg_none_of X G z3
  have y4 := PySem.W.mg_none_of X G z4
  have y5 := PySem.W.mg_none_of X G z5
  have y6 := PySem.W.mg_none_of X G z6
  have y7 := PySem.W.mg_none_of X G z7
  have y8 := PySem.W.mg_none_of X G z8
  have y9 := PySem.W.mg_none_of X G z9
  have y10 := PySem.W.mg_none_of X G z10
  have y11 := PySem.W.mg_none_of X G z11
  have y12 := PySem.W.mg_none_of X G z12
  have y13 := PySem.W.mg_none_of X G z13
  have y14 := PySem.W.mg_none_of X G z14
  refine ⟨PySem.W.fnOf "law" "law" (defArgs sLaw) (defBody sLaw) (defScope sLaw) .none kV18 dc18 pm18 an18 cd18 ct18, fun s v => .of_eq rfl, fun base _ _ => ?_⟩
  have B : Blt mg := ⟨y1, y2, y3, y4, y5, y6, y7, y8, y9, y10, y11, y12, y13⟩
  have CM : Cal l.prog w K mg base 1 "mark" ["deed"] spMark f2 _ := ⟨ok_mark F2, m2, k2, b2⟩
  have CS : Cal l.prog w K mg base 1 "size" ["deed"] spSize f3 _ := ⟨ok_size F3 B, m3, k3, b3⟩
  have CH : Cal l.prog w K mg base 1 "has_seen" ["deed", "mark"] spSeen f4 _ := ⟨ok_seen F4 B, m4, k4, b4⟩
  have CP : Cal l.prog w K mg base 2 "_place" ["deed"] spPlace f6 _ := ⟨ok_place F6 CM CS, m6, k6, b6⟩
  have CI : Cal l.prog w K mg base 6 "in_order" ["deeds"] (spIn K) f5 _ := ⟨(ok_in F5 CP B).mono (by decide), m5, k5, b5⟩
  have A1 : Cal l.prog w K mg base 2 "_has_mark" ["members", "deed"] spHasMark f7 _ := ⟨ok_hasMark F7 CM, m7, k7, b7⟩
  have A2 : Cal l.prog w K mg base 2 "_has_note" ["members", "deed"] spHasNote f8 _ := ⟨ok_hasNote F8 B y14, m8, k8, b8⟩
  have A3 : Cal l.prog w K mg base 2 "_goes_down" ["members", "deed"] spDown f9 _ := ⟨ok_down F9, m9, k9, b9⟩
  have LK : Cal l.prog w K mg base 6 "look" ["members", "deed"] spLook f1 _ := ⟨(ok_look F1 A1 A2 A3).mono (by decide), m1, k1, b1⟩
  have CT : Cal l.prog w K mg base 6 "_law_tray" ["script"] (spTray K) f10 _ := ⟨ok_tray F10 B.max, m10, k10, b10⟩
  have D1 : DrawC l.prog w K mg base 1 f11 _ := ⟨ok_draw F11, m11, k11, b11⟩
  have D2 : DrawC l.prog w K mg base 2 f11 _ := ⟨ok_draw F11, m11, k11, b11⟩
  have D3 : DrawC l.prog w K mg base 3 f11 _ := ⟨ok_draw F11, m11, k11, b11⟩
  have D5 : DrawC l.prog w K mg base 5 f11 _ := ⟨ok_draw F11, m11, k11, b11⟩
  have W2 : Cal l.prog w K mg base 2 "_law_word" ["tray"] spWord f12 _ := ⟨ok_word F12 D1 B.range, m12, k12, b12⟩
  have T3 : Cal l.prog w K mg base 3 "_law_what" ["tray", "who", "many", "mights"] spWhat f13 _ := ⟨ok_what F13 D2 W2 B.len, m13, k13, b13⟩
  have W3 := W2.mono (show 2 ≤ 3 by decide)
  have V4 : Cal l.prog w K mg base 6 "_law_world" ["tray", "most"] spWorld f14 _ := ⟨(ok_world F14 D3 W3 T3 B.range B.max B.zip B.tuple).mono (by decide), m14, k14, b14⟩
  have Mo : Cal l.prog w K mg base 6 "_law_most" ["tray"] spMost f15 _ := ⟨ok_most F15 D5, m15, k15, b15⟩
  have Sh : Cal l.prog w K mg base 6 "_law_shuffled" ["tray", "rows"] spShuf f16 _ := ⟨ok_shuf F16 D5 B, m16, k16, b16⟩
  have Pt : Cal l.prog w K mg base 6 "_law_part" ["tray", "many", "acts"] spPart f17 _ := ⟨ok_part F17 D5 B, m17, k17, b17⟩
  exact ok_law F18 CT Mo V4 Sh (CS.mono (by decide)) CI LK Pt (CH.mono (by decide)) (CM.mono (by decide)) B

end FR
open PySem PySem.W PyProof.Rows
set_option maxRecDepth 100000 in
set_option maxHeartbeats 0 in
theorem PySem.Challenge.cw_firmroll_k05_whole_cut_anywhere_holds : PySem.Challenge.rw_firmroll_k05_whole_cut_anywhere.Holds := by
  w_on; o_law; k_head; (case hw => w_witness2)
  k_fill
  refine L2.walk_of (l := PySem.Challenge.rw_firmroll_k05_whole_cut_anywhere) (n := 63) (k := 7) (x := "script") (CX := fun _ => L2.CX0) (sp := fun w => FR.spLaw _) rfl (by decide) rfl ⟨rfl, by decide, by decide⟩ (fun w h Y => PySem.W.kIn_of Y) ?F (fun _ _ a ns hl _ hS => ⟨a, ns, rfl, hS, hl, fun _ => rfl⟩) (fun _ _ _ _ _ h => h)
  case F =>
    intro w mg fa h KX G hmg
    refine' FR.all_mk KX G hmg ?a1 ?l1 ?c1 ?k1 ?a2 ?l2 ?c2 ?k2 ?a3 ?l3 ?c3 ?k3 ?a4 ?l4 ?c4 ?k4 ?a5 ?l5 ?c5 ?k5 ?a6 ?l6 ?c6 ?k6 ?a7 ?l7 ?c7 ?k7 ?a8 ?l8 ?c8 ?k8 ?a9 ?l9 ?c9 ?k9 ?a10 ?l10 ?c10 ?k10 ?a11 ?l11 ?c11 ?k11 ?a12 ?l12 ?c12 ?k12 ?a13 ?l13 ?c13 ?k13 ?a14 ?l14 ?c14 ?k14 ?a15 ?l15 ?c15 ?k15 ?a16 ?l16 ?c16 ?k16 ?a17 ?l17 ?c17 ?k17 ?a18 ?l18 ?c18 ?k18 ?z1 ?z2 ?z3 ?z4 ?z5 ?z6 ?z7 ?z8 ?z9 ?z10 ?z11 ?z12 ?z13 ?z14
    (case a1 => k_is)
    (case l1 => k_is)
    (case c1 => k_is)
    (case k1 => k_is)
    (case a2 => k_is)
    (case l2 => k_is)
    (case c2 => k_is)
    (case k2 => k_is)
    (case a3 => k_is)
    (case l3 => k_is)
    (case c3 => k_is)
    (case k3 => k_is)
    (case a4 => k_is)
    (case l4 => k_is)
    (case c4 => k_is)
    (case k4 => k_is)
    (case a5 => k_is)
    (case l5 => k_is)
    (case c5 => k_is)
    (case k5 => k_is)
    (case a6 => k_is)
    (case l6 => k_is)
    (case c6 => k_is)
    (case k6 => k_is)
    (case a7 => k_is)
    (case l7 => k_is)
    (case c7 => k_is)
    (case k7 => k_is)
    (case a8 => k_is)
    (case l8 => k_is)
    (case c8 => k_is)
    (case k8 => k_is)
    (case a9 => k_is)
    (case l9 => k_is)
    (case c9 => k_is)
    (case k9 => k_is)
    (case a10 => k_is)
    (case l10 => k_is)
    (case c10 => k_is)
    (case k10 => k_is)
    (case a11 => k_is)
    (case l11 => k_is)
    (case c11 => k_is)
    (case k11 => k_is)
    (case a12 => k_is)
    (case l12 => k_is)
    (case c12 => k_is)
    (case k12 => k_is)
    (case a13 => k_is)
    (case l13 => k_is)
    (case c13 => k_is)
    (case k13 => k_is)
    (case a14 => k_is)
    (case l14 => k_is)
    (case c14 => k_is)
    (case k14 => k_is)
    (case a15 => k_is)
    (case l15 => k_is)
    (case c15 => k_is)
    (case k15 => k_is)
    (case a16 => k_is)
    (case l16 => k_is)
    (case c16 => k_is)
    (case k16 => k_is)
    (case a17 => k_is)
    (case l17 => k_is)
    (case c17 => k_is)
    (case k17 => k_is)
    (case a18 => k_is)
    (case l18 => k_is)
    (case c18 => k_is)
    (case k18 => k_is)
    (case z1 => k_is)
    (case z2 => k_is)
    (case z3 => k_is)
    (case z4 => k_is)
    (case z5 => k_is)
    (case z6 => k_is)
    (case z7 => k_is)
    (case z8 => k_is)
    (case z9 => k_is)
    (case z10 => k_is)
    (case z11 => k_is)
    (case z12 => k_is)
    (case z13 => k_is)
    (case z14 => k_is)

