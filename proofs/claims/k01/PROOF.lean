import PyProof.Rows.All
import Wide.All
import OpenK.AllK
import Wide.FinOn
import HandS.ForMost
import HandS.Walk
import HandS.Strs
import HandS.SetFor
import HandS.IsInst
import HandS.TupAny
import HandS.Codes
import HandS.SortKw
import HandS.Zip
import HandS.Defaults
import HandS.NoneIn
import HandS.MakeKwOnly
import HandS.Keys
import KE.SortCalls
import HandS.Deep
import HandS.Nested
import HandS.ExcInit
import HandS.FStr
import HandS.FStrTup
import KE.KExcSuper
import HandS.ExcSuper
import HandS.ForExc
import HandS.HotCalls
import HandS.ExcField
import HandS.ExcIs
import KE.KExcIs
import HandS.Words
import HandS.WordsExc
import HandS.TupMul
import HandS.Text
import HandS.RaiseMore
import PySem.Challenge.RW_firmroll_k01_deeds_looked_at
set_option Elab.async false
set_option linter.all false
set_option maxRecDepth 100000
set_option maxHeartbeats 8000000
namespace FR
open PySem PySem.Spec PyProof.Rows L2
/-! ### heaps: all but what may change stays -/
structure Kp (S : List Addr) (H H' : Hp) : Prop where
  kp : ∀ b o, H b = some o → b ∉ S → H' b = some o
  tp : ∀ b xs, H b = some (.tup xs) → H' b = some (.tup xs)
  dm : ∀ b, H' b = none → H b = none
theorem Kp.refl (S : List Addr) (H : Hp) : Kp S H H := ⟨fun _ _ h _ => h, fun _ _ h => h, fun _ h => h⟩
theorem Kp.trans {S : List Addr} {H H1 H2 : Hp} (a : Kp S H H1) (b : Kp S H1 H2) : Kp S H H2 :=
  ⟨fun c o h n => b.kp c o (a.kp c o h n) n, fun c xs h => b.tp c xs (a.tp c xs h), fun c h => a.dm c (b.dm c h)⟩
theorem Kp.mono {S S' : List Addr} {H H' : Hp} (a : Kp S H H') (h : ∀ b, b ∈ S → b ∈ S') : Kp S' H H' :=
  ⟨fun c o e n => a.kp c o e fun m => n (h c m), a.tp, a.dm⟩
theorem Kp.of {S : List Addr} {H H' : Hp} (s : Same H H') : Kp S H H' := ⟨fun b o h _ => s b o h, fun b xs h => s b _ h, fun b h => s.free h⟩
theorem same_new {H : Hp} {p : Addr} {o : HO} (h : H p = none) : Same H (upd H p o) := fun b u q => by
  rw [upd_ne (ne_of_none q h)]
  exact q
theorem Kp.new {S : List Addr} {H : Hp} {p : Addr} {o : HO} (h : H p = none) : Kp S H (upd H p o) := .of (same_new h)
theorem Kp.set {S : List Addr} {H : Hp} {p : Addr} {xs : List V} {o : HO} (h : H p = some (.lst xs)) (m : p ∈ S) : Kp S H (upd H p o) := by
  refine ⟨fun b u e n => ?_, fun b ys e => ?_, fun b e => ?_⟩
  · have nb : b ≠ p := fun q => n (q ▸ m)
    rw [upd_ne nb]
    exact e
  · have nb : b ≠ p := fun q => by
      rw [q, h] at e
      cases e
    rw [upd_ne nb]
    exact e
  · by_cases nb : b = p
    · rw [nb, upd_same] at e
      cases e
    · rw [upd_ne nb] at e
      exact e
theorem Kp.over {S : List Addr} {H H1 : Hp} {p : Addr} {o : HO} (k : Kp S H H1) (h : H p = none) : Kp S H (upd H1 p o) := by
  refine ⟨fun b u e n => ?_, fun b ys e => ?_, fun b e => ?_⟩
  · rw [upd_ne (ne_of_none e h)]
    exact k.kp b u e n
  · rw [upd_ne (ne_of_none e h)]
    exact k.tp b ys e
  · by_cases nb : b = p
    · rw [nb]
      exact h
    · rw [upd_ne nb] at e
      exact k.dm b e
theorem Kp.same {H H' : Hp} (a : Kp [] H H') : Same H H' := fun b o e => a.kp b o e (by simp)
theorem Kp.lst {S : List Addr} {H H' : Hp} {p : Addr} {xs : List V} (a : Kp S H H') (h : H p = some (.lst xs)) (n : p ∉ S) : H' p = some (.lst xs) := a.kp p _ h n
/-- a place that is new behind H is none of those that stood in H -/
theorem nin_new {S : List Addr} {H : Hp} {p : Addr} (h : H p = none) (k : ∀ b, b ∈ S → H b ≠ none) : p ∉ S := fun m => k p m h
theorem ne_new {H : Hp} {a b : Addr} {o : HO} (h : H a = some o) (h' : H b = none) : b ≠ a := fun e => ne_of_none h h' e.symm

theorem sqT {K : PySem.W.Frag} {H : Hp} {a : Addr} {xs : List V} (h : H a = some (.tup xs)) : SqT K H a xs := .inl (.inl h)
theorem sqL {K : PySem.W.Frag} {H : Hp} {a : Addr} {xs : List V} (h : H a = some (.lst xs)) : SqL K H a xs := .inl (.inl h)
theorem upd_at {H : Hp} {a b : Addr} {o u : HO} (h : H b = some u) (n : H a = none) : (upd H a o) b = some u := by
  rw [upd_ne (ne_of_none h n)]
  exact h

/-! ### the tray -/
structure TrayAt (H : Hp) (t g : Addr) (N : Nat) : Prop where
  ex : ∃ (gs : List Int) (x f n : Int), H t = some (.lst [.ref g, .int x, .int f, .int n]) ∧ H g = some (.lst (gs.map V.int)) ∧ 0 ≤ f ∧ f < 2 ^ 61 ∧ 0 ≤ n ∧ n ≤ (N : Int)
theorem TrayAt.mono {H : Hp} {t g : Addr} {N M : Nat} (T : TrayAt H t g N) (h : N ≤ M) : TrayAt H t g M := by
  obtain ⟨gs, x, f, n, h1, h2, h3, h4, h5, h6⟩ := T.ex
  exact ⟨gs, x, f, n, h1, h2, h3, h4, h5, by omega⟩
theorem TrayAt.keep {S : List Addr} {H H' : Hp} {t g : Addr} {N : Nat} (T : TrayAt H t g N) (k : Kp S H H') (ht : t ∉ S) (hg : g ∉ S) : TrayAt H' t g N := by
  obtain ⟨gs, x, f, n, h1, h2, h3⟩ := T.ex
  exact ⟨gs, x, f, n, k.kp _ _ h1 ht, k.kp _ _ h2 hg, h3⟩
theorem TrayAt.same {H H' : Hp} {t g : Addr} {N : Nat} (T : TrayAt H t g N) (k : Same H H') : TrayAt H' t g N :=
  T.keep (S := []) (.of k) (by simp) (by simp)
theorem TrayAt.neT {H : Hp} {t g p : Addr} {N : Nat} (T : TrayAt H t g N) (h : H p = none) : p ∉ [t, g] := by
  obtain ⟨gs, x, f, n, h1, h2, h3⟩ := T.ex
  intro m
  simp only [List.mem_cons, List.not_mem_nil, or_false] at m
  rcases m with rfl | rfl
  · rw [h1] at h
    cases h
  · rw [h2] at h
    cases h
theorem TrayAt.over {H : Hp} {t g p : Addr} {N : Nat} {o : HO} (T : TrayAt H t g N) (h : p ∉ [t, g]) : TrayAt (upd H p o) t g N := by
  obtain ⟨gs, x, f, n, h1, h2, h3⟩ := T.ex
  simp only [List.mem_cons, List.not_mem_nil, or_false, not_or] at h
  exact ⟨gs, x, f, n, (upd_ne fun e => h.1 e.symm).trans h1, (upd_ne fun e => h.2 e.symm).trans h2, h3⟩
def spDraw : Sp := fun vs H Q _ => ∃ (t g : Addr) (N : Nat) (many : Int), vs = [.ref t, .int many] ∧ TrayAt H t g N ∧ N < 2 ^ 60 ∧ 0 < many ∧ many < 1073741824 ∧
  ∀ (H' : Hp) (k : Int), 0 ≤ k → k < many → TrayAt H' t g (N + 1) → Kp [t, g] H H' → Q (.int k) H'
def spTray (K : PySem.W.Frag) : Sp := fun vs H Q _ => ∃ (a : Addr) (ns : List Int), vs = [.ref a] ∧ SqL K H a (ns.map V.int) ∧ ns.length ≤ 63 ∧
  ∀ (t g : Addr) (H' : Hp), Same H H' → H t = none → H g = none → TrayAt H' t g 0 → Q (.ref t) H'
theorem map_int_at {ns : List Int} {i : Nat} {y : V} (h : (ns.map V.int)[i]? = some y) : ∃ z, ns[i]? = some z ∧ y = V.int z := by
  rw [List.getElem?_map] at h
  cases e : ns[i]? with
  | none =>
    rw [e] at h
    cases h
  | some z =>
    rw [e] at h
    exact ⟨z, rfl, (Option.some.inj h).symm⟩
def lenAt (g : Addr) (H : Hp) : Nat := match H g with
  | some (.lst xs) => xs.length
  | _ => 0
theorem lenAt_of {g : Addr} {H : Hp} {xs : List V} (h : H g = some (.lst xs)) : lenAt g H = xs.length := by
  unfold lenAt
  rw [h]
theorem eqv_ints_nil : ∀ gs : List Int, PyData.eqv (.list (gs.map PyData.int)) (.list []) = gs.isEmpty
  | [] => rfl
  | _ :: _ => rfl
theorem dpInts {K : PySem.W.Frag} {H : Hp} : ∀ gs : List Int, DpAll K H (gs.map V.int) (gs.map PyData.int)
  | [] => .nil
  | g :: r => .cons (.int g) (dpInts r)
theorem erase0 (gs : List Int) : (gs.map V.int).eraseIdx 0 = (gs.drop 1).map V.int := by cases gs <;> rfl
end FR
namespace FR
open PySem PySem.Spec PyProof.Rows L2
/-! ### words -/
def WordOk (s : Str) : Prop := 1 ≤ (TL.tl s).length ∧ (TL.tl s).length ≤ 8 ∧ ∀ c ∈ TL.tl s, 97 ≤ c ∧ c ≤ 122
instance (s : Str) : Decidable (WordOk s) := by unfold WordOk; infer_instance
def someWords : List Str := ["give", "take", "use", "lead", "seen", "a", "b", "ab"]
theorem some_ok : ∀ s ∈ someWords, WordOk s := by decide +kernel
theorem some_at {k : Int} (h0 : 0 ≤ k) (h1 : k < 8) : ∃ s, atI (someWords.map V.str) k = some (.str s) ∧ WordOk s := by
  have hk : k.toNat < someWords.length := by show k.toNat < 8; omega
  refine ⟨someWords[k.toNat], ?_, some_ok _ (List.getElem_mem hk)⟩
  refine at_of (j := k.toNat) (by omega) ?_
  rw [List.getElem?_map, List.getElem?_eq_getElem hk]
  rfl
def abc : Str := "abcdefghijklmnopqrstuvwxyz"
theorem abc_all : ∀ j : Fin 26, abc.cps.toList[j.val]? = some (97 + j.val) := by decide +kernel
theorem abc_len : abc.length ≤ sizeLine := by decide +kernel
theorem abc_at {k : Int} (h0 : 0 ≤ k) (h1 : k < 26) : atI abc.cps.toList k = some (97 + k.toNat) := by
  have e : k = ((k.toNat : Nat) : Int) := by omega
  have h := abc_all ⟨k.toNat, by omega⟩
  rw [e]
  exact atI_nat h
/-- the text of these small letters -/
def letters (l : List Nat) : Str := ⟨l.toArray⟩
theorem join_one : ∀ l : List Nat, TL.tl (Txt.join Str.empty (l.map fun c => (⟨#[c]⟩ : Str))) = l := fun l => by
  rw [TL.join_eq, TL.tl_join]
  induction l with
  | nil => rfl
  | cons c r ih =>
    cases r with
    | nil => rfl
    | cons d r =>
      have e : TL.joinL (TL.tl Str.empty) (List.map TL.tl (List.map (fun c => (⟨#[c]⟩ : Str)) (c :: d :: r))) = [c] ++ ([] ++ TL.joinL (TL.tl Str.empty) (List.map TL.tl (List.map (fun c => (⟨#[c]⟩ : Str)) (d :: r)))) := rfl
      rw [e, ih]
      rfl
theorem ones_sum : ∀ l : List Nat, ((l.map fun c => (⟨#[c]⟩ : Str)).map (·.length)).sum = l.length
  | [] => rfl
  | c :: r => by
    rw [List.map_cons, List.map_cons, List.sum_cons, ones_sum r, List.length_cons, Nat.add_comm]
    rfl
def spWord : Sp := fun vs H Q _ => ∃ (t g : Addr) (N : Nat), vs = [.ref t] ∧ TrayAt H t g N ∧ N + 20 < 2 ^ 60 ∧
  ∀ (H' : Hp) (s : Str), WordOk s → TrayAt H' t g (N + 12) → Kp [t, g] H H' → Q (.str s) H'
end FR
namespace FR
open PySem PySem.Spec PyProof.Rows L2
/-! ### what is done, deeds -/
inductive What where
  | give (p k : Str) (m : Int)
  | take (p k : Str) (m : Int)
  | use (p v : Str)
  deriving DecidableEq
def What.vs : What → List V
  | .give p k m => [.str "give", .str p, .str k, .int m]
  | .take p k m => [.str "take", .str p, .str k, .int m]
  | .use p v => [.str "use", .str p, .str v]
def KindOk (k : Str) : Prop := k = "use" ∨ k = "lead"
def What.Ok (who many : Int) : What → Prop
  | .give p k m => WordOk p ∧ KindOk k ∧ who < m ∧ m < many
  | .take p k m => WordOk p ∧ KindOk k ∧ who < m ∧ m < many
  | .use p v => WordOk p ∧ WordOk v
structure Act where
  who : Int
  num : Int
  note : List Int
  what : What
  deriving DecidableEq
def ActAt (H : Hp) (p : Addr) (a : Act) : Prop := ∃ n q, H p = some (.tup [.int a.who, .int a.num, .ref n, .ref q]) ∧ H n = some (.tup (a.note.map V.int)) ∧ H q = some (.tup a.what.vs)
theorem ActAt.keep {S : List Addr} {H H' : Hp} {p : Addr} {a : Act} (h : ActAt H p a) (k : Kp S H H') : ActAt H' p a := by
  obtain ⟨n, q, h1, h2, h3⟩ := h
  exact ⟨n, q, k.tp _ _ h1, k.tp _ _ h2, k.tp _ _ h3⟩
abbrev ActsAt (H : Hp) (ps : List Addr) (as : List Act) : Prop := Paired (fun p a => ActAt H p a) ps as
theorem ActsAt.keep {S : List Addr} {H H' : Hp} {ps : List Addr} {as : List Act} (h : ActsAt H ps as) (k : Kp S H H') : ActsAt H' ps as := Paired.mapP h fun _ _ q => q.keep k
theorem paired_snoc {α β : Type} {F : α → β → Prop} : ∀ {xs : List α} {ys : List β} {x : α} {y : β}, Paired F xs ys → F x y → Paired F (xs ++ [x]) (ys ++ [y])
  | _, _, _, _, .nil, h => .cons h .nil
  | _, _, _, _, .cons r t, h => .cons r (paired_snoc t h)
theorem paired_at {α β : Type} {F : α → β → Prop} : ∀ {xs : List α} {ys : List β} {i : Nat} {x : α}, Paired F xs ys → xs[i]? = some x → ∃ y, ys[i]? = some y ∧ F x y
  | _, _, _, _, .nil, h => by simp at h
  | _, _, 0, _, .cons r t, h => by
    simp at h
    subst h
    exact ⟨_, rfl, r⟩
  | _, _, i + 1, x, .cons r t, h => by
    obtain ⟨y, h1, h2⟩ := paired_at (i := i) (x := x) t (by simpa using h)
    exact ⟨y, by simpa using h1, h2⟩
theorem strs_at {ms : List Str} {k : Int} (h0 : 0 ≤ k) (h1 : k < (ms.length : Int)) : ∃ s, s ∈ ms ∧ atI (ms.map V.str) k = some (.str s) := by
  have hk : k.toNat < ms.length := by omega
  refine ⟨ms[k.toNat], List.getElem_mem hk, at_of (j := k.toNat) (by omega) ?_⟩
  rw [List.getElem?_map, List.getElem?_eq_getElem hk]
  rfl
theorem kind_at {k : Int} (h0 : 0 ≤ k) (h1 : k < 2) : ∃ s, KindOk s ∧ atI ([.str "use", .str "lead"] : List V) k = some (.str s) := by
  obtain ⟨s, m, e⟩ := strs_at (ms := ["use", "lead"]) h0 h1
  refine ⟨s, ?_, e⟩
  simp at m
  exact m
theorem deal_at {k : Int} (h0 : 0 ≤ k) (h1 : k < 4) : ∃ s : Str, (s = "give" ∨ s = "take") ∧ atI ([.str "give", .str "give", .str "give", .str "take"] : List V) k = some (.str s) := by
  obtain ⟨s, m, e⟩ := strs_at (ms := ["give", "give", "give", "take"]) h0 h1
  refine ⟨s, ?_, e⟩
  simp at m
  exact m
def spWhat : Sp := fun vs H Q _ => ∃ (t g m : Addr) (N : Nat) (who many : Int) (ms : List Str), vs = [.ref t, .int who, .int many, .ref m] ∧ TrayAt H t g N ∧ N + 40 < 2 ^ 60 ∧ 0 ≤ who ∧ who < many ∧ many ≤ 6 ∧
  H m = some (.lst (ms.map V.str)) ∧ m ∉ [t, g] ∧ ms ≠ [] ∧ ms.length ≤ 3 ∧ (∀ s ∈ ms, WordOk s) ∧
  ∀ (H' : Hp) (q : Addr) (wt : What), H q = none → H' q = some (.tup wt.vs) → wt.Ok who many → TrayAt H' t g (N + 16) → Kp [t, g] H H' → Q (.ref q) H'
end FR
namespace FR
open PySem PySem.Spec PyProof.Rows L2
/-! ### a world: deeds done one behind the other -/
/-- the deeds so far, and what each member knows of them -/
inductive Wd (many : Nat) : List Act → List (List Int) → Prop
  | nil : Wd many [] (List.replicate many (List.replicate many 0))
  | step {acts : List Act} {known : List (List Int)} {i : Nat} {row row' : List Int} {c : Int} {wt : What} : Wd many acts known → known[i]? = some row →
      (row' = row ∨ ∃ (j : Nat) (ro : List Int), known[j]? = some ro ∧ row' = List.zipWith max row ro) → row'[i]? = some c → wt.Ok i many →
      Wd many (acts ++ [⟨i, c + 1, row', wt⟩]) (known.set i (row'.set i (c + 1)))
theorem Wd.lens {many : Nat} {acts : List Act} {known : List (List Int)} (h : Wd many acts known) : known.length = many ∧ ∀ r ∈ known, r.length = many := by
  induction h with
  | nil => exact ⟨List.length_replicate, fun r m => by rw [(List.mem_replicate.mp m).2]; exact List.length_replicate⟩
  | step w hi hr hc ok ih =>
    obtain ⟨h1, h2⟩ := ih
    refine ⟨by rw [List.length_set]; exact h1, fun r m => ?_⟩
    rcases List.mem_or_eq_of_mem_set m with m | rfl
    · exact h2 r m
    · rw [List.length_set]
      have q := h2 _ (List.mem_of_getElem? hi)
      rcases hr with rfl | ⟨j, ro, hj, rfl⟩
      · exact q
      · rw [List.length_zipWith, q, h2 _ (List.mem_of_getElem? hj), Nat.min_self]
theorem paired_set {α β : Type} {F : α → β → Prop} {x : α} {y : β} (r : F x y) : ∀ {xs : List α} {ys : List β} (i : Nat), Paired F xs ys → Paired F (xs.set i x) (ys.set i y)
  | _, _, _, .nil => .nil
  | _, _, 0, .cons _ t => .cons r t
  | _, _, i + 1, .cons q t => .cons q (paired_set r i t)
theorem paired_len {α β : Type} {F : α → β → Prop} {xs : List α} {ys : List β} (h : Paired F xs ys) : xs.length = ys.length := Paired.length h
theorem paired_at2 {α β : Type} {F : α → β → Prop} : ∀ {xs : List α} {ys : List β} {i : Nat} {y : β}, Paired F xs ys → ys[i]? = some y → ∃ x, xs[i]? = some x ∧ F x y
  | _, _, _, _, .nil, h => by simp at h
  | _, _, 0, _, .cons r t, h => by
    simp at h
    subst h
    exact ⟨_, rfl, r⟩
  | _, _, i + 1, x, .cons r t, h => by
    obtain ⟨y, h1, h2⟩ := paired_at2 (i := i) (y := x) t (by simpa using h)
    exact ⟨y, by simpa using h1, h2⟩
/-- only the i-th is looked at anew -/
theorem paired_imp_ne {α β : Type} {F G : α → β → Prop} : ∀ {xs : List α} {ys : List β} (p : α → Prop), Paired F xs ys → (∀ x ∈ xs, p x) → (∀ x y, p x → F x y → G x y) → Paired G xs ys
  | _, _, _, .nil, _, _ => .nil
  | _, _, p, .cons r t, h, f => .cons (f _ _ (h _ (List.mem_cons_self ..)) r) (paired_imp_ne p t (fun x m => h x (List.mem_cons_of_mem _ m)) f)
abbrev RowsAt (H : Hp) (as : List Addr) (known : List (List Int)) : Prop := Paired (fun a (r : List Int) => H a = some (.lst (r.map V.int))) as known
theorem max_int (i j : Int) : (if j > i then j else i) = max i j := by
  rw [Int.max_def]
  split <;> split <;> omega
/-- the heap while a world is made: H0 ahead of it; kn what is known, ac the deeds, m the powers; the tray as at N -/
structure WAt (H0 H : Hp) (t g m kn ac : Addr) (ms : List Str) (as ps : List Addr) (acts : List Act) (known : List (List Int)) (N : Nat) : Prop where
  hkn : H kn = some (.lst (as.map V.ref))
  hac : H ac = some (.lst (ps.map V.ref))
  hm : H m = some (.lst (ms.map V.str))
  rows : RowsAt H as known
  nd : as.Nodup
  apart : ∀ a ∈ as, a ∉ [t, g, kn, ac, m]
  nkn : kn ∉ [t, g, ac, m]
  nac : ac ∉ [t, g, m]
  nm : m ∉ [t, g]
  acts : ActsAt H ps acts
  T : TrayAt H t g N
  kp : Kp [t, g] H0 H
  fkn : H0 kn = none
  fac : H0 ac = none
  frows : ∀ a ∈ as, H0 a = none
section
variable {H0 H H' : Hp} {t g m kn ac : Addr} {ms : List Str} {as ps : List Addr} {acts : List Act} {known : List (List Int)} {N M : Nat}
theorem RowsAt.keep {S : List Addr} (h : RowsAt H as known) (k : Kp S H H') (n : ∀ a ∈ as, a ∉ S) : RowsAt H' as known :=
  paired_imp_ne (fun a => a ∉ S) h n fun x y nx e => k.kp x _ e nx
/-- the tray was drawn from, new things were made -/
theorem WAt.keep (W : WAt H0 H t g m kn ac ms as ps acts known N) (k : Kp [t, g] H H') (T : TrayAt H' t g M) : WAt H0 H' t g m kn ac ms as ps acts known M := by
  have n1 := W.nkn
  have n2 := W.nac
  have n3 := W.nm
  simp only [List.mem_cons, List.not_mem_nil, or_false, not_or] at n1 n2 n3
  refine { W with
    hkn := k.kp _ _ W.hkn (by simp [n1])
    hac := k.kp _ _ W.hac (by simp [n2])
    hm := k.kp _ _ W.hm (by simp [n3])
    rows := W.rows.keep k fun a h => ?_
    acts := W.acts.keep k
    T := T
    kp := W.kp.trans k }
  have q := W.apart a h
  simp only [List.mem_cons, List.not_mem_nil, or_false, not_or] at q ⊢
  exact ⟨q.1, q.2.1⟩
theorem WAt.mono (W : WAt H0 H t g m kn ac ms as ps acts known N) (h : N ≤ M) : WAt H0 H t g m kn ac ms as ps acts known M := { W with T := W.T.mono h }
theorem WAt.row (W : WAt H0 H t g m kn ac ms as ps acts known N) {i : Nat} {row : List Int} (h : known[i]? = some row) : ∃ a, as[i]? = some a ∧ H a = some (.lst (row.map V.int)) ∧ (as.map V.ref)[i]? = some (V.ref a) := by
  obtain ⟨a, h1, h2⟩ := paired_at2 W.rows h
  refine ⟨a, h1, h2, ?_⟩
  rw [List.getElem?_map, h1]
  rfl
theorem nd_set {α : Type} {l : List α} {i : Nat} {x : α} (h : l.Nodup) (n : x ∉ l) : (l.set i x).Nodup := by
  induction l generalizing i with
  | nil => exact h
  | cons a r ih =>
    rw [List.nodup_cons] at h
    rw [List.mem_cons, not_or] at n
    cases i with
    | zero =>
      show (x :: r).Nodup
      rw [List.nodup_cons]
      exact ⟨n.2, h.2⟩
    | succ i =>
      show (a :: r.set i x).Nodup
      rw [List.nodup_cons]
      refine ⟨fun m => ?_, ih h.2 n.2⟩
      rcases List.mem_or_eq_of_mem_set m with m | e
      · exact h.1 m
      · exact n.1 e.symm
theorem map_set_ref (as : List Addr) (i : Nat) (D : Addr) : (as.map V.ref).set i (.ref D) = (as.set i D).map V.ref := by rw [List.map_set]
/-- known[i] = the new list at D -/
theorem WAt.put (W : WAt H0 H t g m kn ac ms as ps acts known N) {i : Nat} {row : List Int} {D : Addr} (hD : H D = some (.lst (row.map V.int))) (nD : D ∉ [t, g, kn, ac, m]) (nas : D ∉ as) (f : H0 D = none) :
    WAt H0 (upd H kn (.lst ((as.set i D).map V.ref))) t g m kn ac ms (as.set i D) ps acts (known.set i row) N := by
  have n1 := W.nkn
  have n2 := W.nac
  have n3 := W.nm
  simp only [List.mem_cons, List.not_mem_nil, or_false, not_or] at n1 n2 n3 nD
  have hkn : ∀ a ∈ as, a ≠ kn := fun a h e => W.apart a h (by rw [e]; simp)
  refine {
    hkn := upd_same, hac := (upd_ne fun e => n1.2.2.1 e.symm).trans W.hac, hm := (upd_ne fun e => n1.2.2.2 e.symm).trans W.hm, rows := ?_, nd := nd_set W.nd nas, apart := fun a h => ?_, nkn := W.nkn, nac := W.nac, nm := W.nm,
    acts := W.acts.keep (S := [kn]) (.set W.hkn (by simp)), T := W.T.over (by simp [n1]), kp := W.kp.over W.fkn, fkn := W.fkn, fac := W.fac, frows := fun a h => ?_ }
  · refine paired_set (F := fun (a : Addr) (r : List Int) => upd H kn (.lst ((as.set i D).map V.ref)) a = some (.lst (r.map V.int))) ((upd_ne nD.2.2.1).trans hD) i (paired_imp_ne (fun (a : Addr) => a ≠ kn) W.rows hkn fun x y nx e => (upd_ne nx).trans e)
  · rcases List.mem_or_eq_of_mem_set h with h | rfl
    · exact W.apart a h
    · simp only [List.mem_cons, List.not_mem_nil, or_false, not_or]
      exact nD
  · rcases List.mem_or_eq_of_mem_set h with h | rfl
    · exact W.frows a h
    · exact f
/-- known[i][..] = ..: the i-th row is changed in its place -/
theorem WAt.turn (W : WAt H0 H t g m kn ac ms as ps acts known N) {i : Nat} {row old : List Int} {r : Addr} (hr : as[i]? = some r) (ho : H r = some (.lst (old.map V.int))) :
    WAt H0 (upd H r (.lst (row.map V.int))) t g m kn ac ms as ps acts (known.set i row) N := by
  have mr := List.mem_of_getElem? hr
  have q := W.apart r mr
  simp only [List.mem_cons, List.not_mem_nil, or_false, not_or] at q
  have e : as = as.set i r := by
    obtain ⟨hl, he⟩ := List.getElem?_eq_some_iff.mp hr
    rw [← he, List.set_getElem_self]
  refine { W with
    hkn := (upd_ne fun e => q.2.2.1 e.symm).trans W.hkn, hac := (upd_ne fun e => q.2.2.2.1 e.symm).trans W.hac, hm := (upd_ne fun e => q.2.2.2.2 e.symm).trans W.hm, rows := ?_,
    acts := W.acts.keep (S := [r]) (.set ho (by simp)), T := W.T.over (by simp [q]), kp := W.kp.over (W.frows r mr) }
  -- all other rows stand at other places
  have all : ∀ {bs : List Addr} {ks : List (List Int)} {i : Nat}, bs[i]? = some r → bs.Nodup → RowsAt H bs ks → RowsAt (upd H r (.lst (row.map V.int))) bs (ks.set i row) := by
    intro bs
    induction bs with
    | nil =>
      intro ks i h
      simp at h
    | cons b bs ih =>
      intro ks i h nd p
      rw [List.nodup_cons] at nd
      cases p with
      | cons p1 p2 =>
        cases i with
        | zero =>
          simp at h
          subst h
          refine .cons upd_same (paired_imp_ne (fun (a : Addr) => a ≠ b) p2 (fun a ma e => nd.1 (e ▸ ma)) fun x y nx e => (upd_ne nx).trans e)
        | succ i =>
          have h : bs[i]? = some r := by simpa using h
          have nb : b ≠ r := fun e => nd.1 (e ▸ List.mem_of_getElem? h)
          exact .cons ((upd_ne nb).trans p1) (ih h nd.2 p2)
  exact all hr W.nd W.rows
/-- acts.append(..) -/
theorem WAt.app (W : WAt H0 H t g m kn ac ms as ps acts known N) {p : Addr} {a : Act} (ha : ActAt H p a) : WAt H0 (upd H ac (.lst (ps.map V.ref ++ [.ref p]))) t g m kn ac ms as (ps ++ [p]) (acts ++ [a]) known N := by
  have n1 := W.nkn
  have n2 := W.nac
  simp only [List.mem_cons, List.not_mem_nil, or_false, not_or] at n1 n2
  have k : Kp [ac] H (upd H ac (.lst (ps.map V.ref ++ [.ref p]))) := .set W.hac (by simp)
  refine { W with hkn := (upd_ne n1.2.2.1).trans W.hkn, hac := ?_, hm := (upd_ne fun e => n2.2.2 e.symm).trans W.hm, rows := ?_, acts := paired_snoc (W.acts.keep k) (ha.keep k), T := W.T.over (by simp [n2]), kp := W.kp.over W.fac }
  · rw [upd_same, List.map_append]
    rfl
  · refine W.rows.keep k fun a h => ?_
    have q := W.apart a h
    simp only [List.mem_cons, List.not_mem_nil, or_false, not_or] at q ⊢
    exact q.2.2.2.1
end
def spWorld : Sp := fun vs H Q _ => ∃ (t g : Addr) (N : Nat) (most : Int), vs = [.ref t, .int most] ∧ TrayAt H t g N ∧ 0 ≤ most ∧ most ≤ 1000 ∧ N < 2 ^ 59 ∧
  ∀ (H' : Hp) (r ac : Addr) (ps : List Addr) (many : Nat) (acts : List Act) (known : List (List Int)), 1 ≤ many → many ≤ 6 → (acts.length : Int) ≤ most → Wd many acts known → H r = none → H ac = none → r ∉ [t, g, ac] → ac ∉ [t, g] →
    H' r = some (.lst [.int many, .ref ac]) → H' ac = some (.lst (ps.map V.ref)) → ActsAt H' ps acts → TrayAt H' t g (N + 100 + 20 * most.toNat) → Kp [t, g] H H' → Q (.ref r) H'
def spMost : Sp := fun vs H Q _ => ∃ (t g : Addr) (N : Nat), vs = [.ref t] ∧ TrayAt H t g N ∧ N < 2 ^ 59 ∧
  ∀ (H' : Hp) (k : Int), 0 ≤ k → k ≤ 110 → TrayAt H' t g (N + 1) → Kp [t, g] H H' → Q (.int k) H'
end FR
namespace FR
open PySem PySem.Spec PyProof.Rows L2
theorem ixN_of {n : Nat} {z : Int} {j : Nat} (e : z = (j : Int)) (h : j < n) : ixN n z = some j := by
  subst e
  unfold ixN
  rw [if_pos (by omega), if_pos (by omega)]
  simp
theorem rep_zero (n : Nat) : (List.replicate n ([V.int 0] : List V)).flatten = (List.replicate n (0 : Int)).map V.int := by
  induction n with
  | zero => rfl
  | succ n ih => rw [List.replicate_succ, List.flatten_cons, ih, List.replicate_succ, List.map_cons]; rfl
theorem ints_at {l : List Int} {i : Nat} {c : Int} (h : l[i]? = some c) : (l.map V.int)[i]? = some (.int c) := by
  rw [List.getElem?_map, h]
  rfl
theorem get_some {α : Type} {l : List α} {i : Nat} (h : i < l.length) : ∃ x, l[i]? = some x := ⟨l[i], List.getElem?_eq_getElem h⟩
theorem zip_take {f : Int → Int → Int} {r s : List Int} {i : Nat} {x y : Int} (h1 : r[i]? = some x) (h2 : s[i]? = some y) : (List.zipWith f r s).take (i + 1) = (List.zipWith f r s).take i ++ [f x y] := by
  rw [List.take_add_one, List.getElem?_zipWith, h1, h2]
  rfl
end FR
namespace FR
open PySem PySem.Spec PyProof.Rows L2
/-! ### two values alike, down to a depth -/
def plainV : V → Bool
  | .non => true
  | .bl _ => true
  | .int _ => true
  | .str _ => true
  | _ => false
def Al (H : Hp) : Nat → V → V → Prop
  | 0, _, _ => False
  | n + 1, x, y => (x = y ∧ plainV x = true) ∨ ∃ (a b : Addr) (xs ys : List V), x = .ref a ∧ y = .ref b ∧ ((H a = some (.lst xs) ∧ H b = some (.lst ys)) ∨ (H a = some (.tup xs) ∧ H b = some (.tup ys))) ∧ xs.length = ys.length ∧ xs.length ≤ 1000 ∧
      ∀ (i : Nat) (u v : V), xs[i]? = some u → ys[i]? = some v → Al H n u v
theorem Al.same {H H' : Hp} (s : Same H H') : ∀ {n : Nat} {x y : V}, Al H n x y → Al H' n x y
  | 0, _, _, h => h.elim
  | n + 1, x, y, h => by
    rcases h with h | ⟨a, b, xs, ys, e1, e2, h, hl, hn, f⟩
    · exact .inl h
    · refine .inr ⟨a, b, xs, ys, e1, e2, ?_, hl, hn, fun i u v h1 h2 => (f i u v h1 h2).same s⟩
      rcases h with ⟨h1, h2⟩ | ⟨h1, h2⟩
      · exact .inl ⟨s _ _ h1, s _ _ h2⟩
      · exact .inr ⟨s _ _ h1, s _ _ h2⟩
theorem Al.flat {H : Hp} {n : Nat} {x : V} (h : plainV x = true) : Al H (n + 1) x x := .inl ⟨rfl, h⟩
/-- by the lists' items one behind the other -/
theorem Al.list {H : Hp} {n : Nat} {a b : Addr} {xs ys : List V} (h1 : H a = some (.lst xs)) (h2 : H b = some (.lst ys)) (hn : xs.length ≤ 1000) (p : Paired (Al H n) xs ys) : Al H (n + 1) (.ref a) (.ref b) :=
  .inr ⟨a, b, xs, ys, rfl, rfl, .inl ⟨h1, h2⟩, paired_len p, hn, fun i u v e1 e2 => by
    obtain ⟨z, e3, q⟩ := paired_at p e1
    rw [e2] at e3
    cases e3
    exact q⟩
theorem Al.tup {H : Hp} {n : Nat} {a b : Addr} {xs ys : List V} (h1 : H a = some (.tup xs)) (h2 : H b = some (.tup ys)) (hn : xs.length ≤ 1000) (p : Paired (Al H n) xs ys) : Al H (n + 1) (.ref a) (.ref b) :=
  .inr ⟨a, b, xs, ys, rfl, rfl, .inr ⟨h1, h2⟩, paired_len p, hn, fun i u v e1 e2 => by
    obtain ⟨z, e3, q⟩ := paired_at p e1
    rw [e2] at e3
    cases e3
    exact q⟩
def spAlike (n : Nat) : Sp := fun vs H Q _ => ∃ (x y : V), vs = [x, y] ∧ Al H n x y ∧ ∀ H' : Hp, Same H H' → Q (.bl true) H'
end FR
namespace FR
open PySem PySem.Spec PyProof.Rows L2
/-! ### deeds as data -/
def What.data : What → List PyData
  | .give p k m => [.str "give", .str p, .str k, .int m]
  | .take p k m => [.str "take", .str p, .str k, .int m]
  | .use p v => [.str "use", .str p, .str v]
def Act.data (a : Act) : PyData := .tuple [.int a.who, .int a.num, .tuple (a.note.map PyData.int), .tuple a.what.data]
theorem What.dp {K : PySem.W.Frag} {H : Hp} : ∀ w : What, DpAll K H w.vs w.data
  | .give _ _ _ => .cons (.str _) (.cons (.str _) (.cons (.str _) (.cons (.int _) .nil)))
  | .take _ _ _ => .cons (.str _) (.cons (.str _) (.cons (.str _) (.cons (.int _) .nil)))
  | .use _ _ => .cons (.str _) (.cons (.str _) (.cons (.str _) .nil))
theorem ActAt.dp {K : PySem.W.Frag} {H : Hp} {p : Addr} {a : Act} (h : ActAt H p a) : Dp K H (.ref p) a.data := by
  obtain ⟨n, q, h1, h2, h3⟩ := h
  exact .tup (sqT h1) (.cons (.int _) (.cons (.int _) (.cons (.tup (sqT h2) (dpInts _)) (.cons (.tup (sqT h3) a.what.dp) .nil))))
theorem word_str {s : Str} (h : WordOk s) : PyData.strOk s = true := by
  show s.cps.all (· < 0x110000) = true
  rw [Array.all_eq_true]
  intro i hi
  have q := h.2.2 s.cps[i] (by show s.cps[i] ∈ s.cps.toList; simp)
  exact decide_eq_true (by omega)
theorem kind_str {s : Str} (h : KindOk s) : PyData.strOk s = true := by rcases h with rfl | rfl <;> decide +kernel
/-- its texts are words -/
def What.Fit : What → Prop
  | .give p k _ => WordOk p ∧ KindOk k
  | .take p k _ => WordOk p ∧ KindOk k
  | .use p v => WordOk p ∧ WordOk v
theorem What.Ok.fit {who many : Int} : ∀ {w : What}, w.Ok who many → w.Fit
  | .give _ _ _, h => ⟨h.1, h.2.1⟩
  | .take _ _ _, h => ⟨h.1, h.2.1⟩
  | .use _ _, h => h
theorem What.lay {w : What} (h : w.Fit) : PyData.canLayAll0 w.data = true := by
  have e1 : PyData.strOk "give" = true := by decide +kernel
  have e2 : PyData.strOk "take" = true := by decide +kernel
  have e3 : PyData.strOk "use" = true := by decide +kernel
  cases w with
  | give p k m => simp [What.data, PyData.canLayAll0, PyData.canLay0, e1, word_str h.1, kind_str h.2]
  | take p k m => simp [What.data, PyData.canLayAll0, PyData.canLay0, e2, word_str h.1, kind_str h.2]
  | use p v => simp [What.data, PyData.canLayAll0, PyData.canLay0, e3, word_str h.1, word_str h.2]
theorem What.deep (w : What) : PyData.depthAll w.data ≤ 1 := by cases w <;> simp [What.data, PyData.depthAll, PyData.depth]
theorem Act.shaped {a : Act} (hf : a.what.Fit) : SeqAt.shaped a.data = true := by
  have h1 := PySem.W.canLayAll0_ints a.note
  have h2 := PySem.W.depthAll_ints a.note
  have h3 := What.lay hf
  have h4 := a.what.deep
  unfold SeqAt.shaped Act.data
  rw [Bool.and_eq_true]
  refine ⟨?_, decide_eq_true ?_⟩
  · simp only [PyData.canLay0, PyData.canLayAll0, h1, h3, Bool.and_self]
  · simp only [PyData.depth, PyData.depthAll]
    omega
theorem Act.eqv {a : Act} (hf : a.what.Fit) : PyData.eqv a.data a.data = true := SeqAt.eqv_refl _ (SeqAt.canLay_of_shaped (Act.shaped hf))
theorem two_shaped (i j : Int) : SeqAt.shaped (.tuple [.int i, .int j]) = true := by
  unfold SeqAt.shaped
  simp [PyData.canLay0, PyData.canLayAll0, PyData.depth, PyData.depthAll]
theorem two_eqv (i j : Int) : PyData.eqv (.tuple [.int i, .int j]) (.tuple [.int i, .int j]) = true := SeqAt.eqv_refl _ (SeqAt.canLay_of_shaped (two_shaped i j))
/-- whether a deed has seen that of a mark -/
def Act.seen (a : Act) (o k : Int) : Bool := decide (0 ≤ o) && decide (o < (a.note.length : Int)) && (decide (1 ≤ k) && decide (k ≤ a.note.getD o.toNat 0))
def spMark : Sp := fun vs H Q _ => ∃ (p : Addr) (a : Act), vs = [.ref p] ∧ ActAt H p a ∧ ∀ (q : Addr) (H' : Hp), Same H H' → H q = none → H' q = some (.tup [.int a.who, .int a.num]) → Q (.ref q) H'
def spSize : Sp := fun vs H Q _ => ∃ (p : Addr) (a : Act), vs = [.ref p] ∧ ActAt H p a ∧ Q (.int a.note.sum) H
def spSeen : Sp := fun vs H Q _ => ∃ (p m : Addr) (a : Act) (o k : Int), vs = [.ref p, .ref m] ∧ ActAt H p a ∧ H m = some (.tup [.int o, .int k]) ∧ Q (.bl (a.seen o k)) H
end FR
namespace FR
open PySem PySem.Spec PyProof.Rows L2
theorem zipWith_nonneg : ∀ {r s : List Int}, (∀ x ∈ r, 0 ≤ x) → (∀ x ∈ s, 0 ≤ x) → ∀ x ∈ List.zipWith max r s, 0 ≤ x
  | [], _, _, _, x, h => by simp at h
  | _ :: _, [], _, _, x, h => by simp at h
  | a :: r, b :: s, hr, hs, x, h => by
    rw [List.zipWith_cons_cons, List.mem_cons] at h
    rcases h with rfl | h
    · have := hr a (List.mem_cons_self ..)
      omega
    · exact zipWith_nonneg (fun y m => hr y (List.mem_cons_of_mem _ m)) (fun y m => hs y (List.mem_cons_of_mem _ m)) x h
theorem Wd.nonneg {many : Nat} {acts : List Act} {known : List (List Int)} (h : Wd many acts known) : ∀ r ∈ known, ∀ x ∈ r, 0 ≤ x := by
  induction h with
  | nil =>
    intro r m x mx
    rw [(List.mem_replicate.mp m).2] at mx
    rw [(List.mem_replicate.mp mx).2]
    exact Int.le_refl 0
  | @step acts known i row row' c wt w hi hr hc ok ih =>
    have h' : ∀ x ∈ row', 0 ≤ x := by
      rcases hr with rfl | ⟨j, ro, hj, rfl⟩
      · exact ih _ (List.mem_of_getElem? hi)
      · exact zipWith_nonneg (ih _ (List.mem_of_getElem? hi)) (ih _ (List.mem_of_getElem? hj))
    intro r m x mx
    rcases List.mem_or_eq_of_mem_set m with m | rfl
    · exact ih r m x mx
    · rcases List.mem_or_eq_of_mem_set mx with mx | rfl
      · exact h' x mx
      · have := h' c (List.mem_of_getElem? hc)
        omega
/-- what is plain of every deed of a world -/
theorem Wd.plain {many : Nat} {acts : List Act} {known : List (List Int)} (h : Wd many acts known) : ∀ a ∈ acts, a.note.length = many ∧ (∀ x ∈ a.note, 0 ≤ x) ∧ a.what.Fit := by
  induction h with
  | nil => intro a m; cases m
  | @step acts known i row row' c wt w hi hr hc ok ih =>
    intro a m
    rcases List.mem_append.mp m with m | m
    · exact ih a m
    · rw [List.mem_singleton.mp m]
      have hl := w.lens.2
      have hn := w.nonneg
      refine ⟨?_, ?_, What.Ok.fit ok⟩
      · rcases hr with rfl | ⟨j, ro, hj, rfl⟩
        · exact hl _ (List.mem_of_getElem? hi)
        · show (List.zipWith max row ro).length = many
          rw [List.length_zipWith, hl _ (List.mem_of_getElem? hi), hl _ (List.mem_of_getElem? hj), Nat.min_self]
      · rcases hr with rfl | ⟨j, ro, hj, rfl⟩
        · exact hn _ (List.mem_of_getElem? hi)
        · exact zipWith_nonneg (hn _ (List.mem_of_getElem? hi)) (hn _ (List.mem_of_getElem? hj))
theorem cut_take (xs : List V) (k : Nat) : cutV xs none (some (k : Int)) = xs.take k := by
  unfold cutV
  rw [HT.sIx_none, HT.sIx_nat, List.drop_zero, Nat.sub_zero]
  by_cases h : k ≤ xs.length
  · rw [Nat.min_eq_left h]
  · rw [Nat.min_eq_right (by omega), List.take_length, List.take_of_length_le (by omega)]
def spLaw (K : PySem.W.Frag) : Sp := fun vs H Q _ => ∃ (a : Addr) (ns : List Int), vs = [.ref a] ∧ SqL K H a (ns.map V.int) ∧ ns.length ≤ 63 ∧ ∀ H', Q (.bl true) H'
end FR

namespace FR
open PySem PySem.Spec PyProof.Rows L2
def top (i : Nat) : Stmt := PySem.Challenge.pw_firmroll_k01_deeds_looked_at.main.body.getD i (.Pass ⟨0, 0, 0, 0⟩)
abbrev sTray : Stmt := top 17
abbrev sDraw : Stmt := top 18
theorem m61 : (0 : Int) < 2 ^ Int.toNat 61 - 1 := by decide
theorem mod61 (z : Int) : 0 ≤ z % (2 ^ Int.toNat 61 - 1) ∧ z % (2 ^ Int.toNat 61 - 1) < 2 ^ 61 :=
  ⟨Int.emod_nonneg _ (by decide), Int.lt_of_lt_of_le (Int.emod_lt_of_pos _ m61) (by decide)⟩
section
variable {P : Program} {w : World} {K : PySem.W.Frag} {mg : Str → Option Value} {base : Heap}
theorem scTray : FnScope ["script", "fold", "great", "cell", "much"] ["script"] (defScope sTray) := ⟨rfl, rfl, rfl, by decide +kernel, rfl, by decide +kernel, by decide +kernel⟩
theorem ok_tray {f : Addr} {fd : FuncData} {k : Nat} (F : Fun K "_law_tray" "_law_tray" sTray f fd) (mx : mg "max" = none) : FnOk P w K mg base CX0 (k + 1) f fd ["script"] (spTray K) := by
  refine F.ok scTray (fun vs H Q E h => ?_) (fun cdv A outer s H vs Q E hr h => ?_)
  · obtain ⟨a, ns, rfl, _⟩ := h
    rfl
  obtain ⟨a, ns, rfl, hS, hl, q⟩ := h
  refine ⟨_, pss_cons (ps_set (i := 1) scTray.nd rfl (.inl rfl) pe_int) (pss_cons (ps_set (i := 2) scTray.nd rfl (.inl rfl) (pe_lst pa_nil))
    (pss_cons (ps_for PassesOwn.never rfl (pi_list (pv 0)) (pg_name (i := 3) scTray.nd rfl (.inl rfl))
      (pss_cons (ps_set (i := 1) scTray.nd rfl (.inl rfl) (pe_op op_mod (pe_op op_add (pe_op op_mul (pv 1) pe_int) (pv 3)) (pe_op op_sub (pe_op op_pow pe_int pe_int) pe_int)))
      (pss_cons (ps_set (i := 4) scTray.nd rfl (.inl rfl) (pe_callB (call_max2 rfl) (by rfl) mx (by decide +kernel) (pa_cons (pv 3) (pa_cons (pe_op op_sub pe_int (pv 3)) pa_nil))))
      (pss_one (ps_if (pt_cmpR op_ge (pv 4) (pe_op op_pow pe_int pe_int) (nomark _))
        (pss_one (ps_expr (pe_bm PySem.F.plainAttrs_list PySem.F.slot_list_append PySem.F.type_list_append mt_append (pv 2) (pa_cons (pe_op op_sub (pv 4) (pe_op op_pow pe_int pe_int)) pa_nil)))) pss_nil)))))
    (pss_one (ps_ret (pe_lst (pa_cons (pv 2) (pa_cons pe_int (pa_cons (pv 1) (pa_cons pe_int pa_nil))))))))), ?_⟩
  refine ⟨Nat.zero_le _, fun g ng => ?_⟩
  refine ⟨_, rfl, a, rfl, ⟨_, (same_new ng).seq hS⟩, for_list (K := K) (a := a) (xs := ns.map V.int) (fun i σ H' => ∃ (fo : Int) (gs : List Int) (v3 v4 : Option V), σ = [some (.ref a), some (.int fo), some (.ref g), v3, v4] ∧ Same H H' ∧ H' g = some (.lst (gs.map V.int)) ∧ gs.length ≤ i ∧ 0 ≤ fo ∧ fo < 2 ^ 61)
      ⟨_, [], none, none, rfl, same_new ng, upd_same, Nat.le_refl _, by decide, by decide⟩ (fun i σ H' _ ⟨_, _, _, _, _, s, _⟩ => s.seq hS) ?_ ?_⟩
  · rintro i y σ H' hi ⟨fo, gs, v3, v4, rfl, s1, hg, hgl, hf0, hf1⟩
    have hi63 : i < ns.length := by
      have q := (List.getElem?_eq_some_iff.mp hi).1
      rw [List.length_map] at q
      exact q
    obtain ⟨z, hz, rfl⟩ := map_int_at hi
    refine ⟨_, rfl, _, _, rfl, rfl, .inr ⟨by decide, by decide⟩, _, rfl, _, _, rfl, rfl, _, _, rfl, rfl, ⟨by decide, by decide, by decide⟩, _, _, rfl, rfl, _, _, rfl, rfl, m61, ?_⟩
    refine ⟨_, rfl, _, rfl, _, _, rfl, rfl, _, _, rfl, ?_⟩
    refine ⟨_, rfl, _, _, rfl, rfl, ⟨by decide, by decide, by decide⟩, _, _, rfl, rfl, _, rfl, ite2 (fun c => ?_) (fun c => ?_)⟩
    · refine ⟨_, rfl, .inl ⟨rfl, _, SqL.of hg⟩, _, rfl, _, _, rfl, rfl, ⟨by decide, by decide, by decide⟩, _, _, rfl, rfl, _, _, _, rfl, rfl, hg, ?_, ?_⟩
      · rw [List.length_map]
        exact small1000 (by omega)
      · refine ⟨_, gs ++ [(if 0 - z > z then 0 - z else z) - 10 ^ Int.toNat 18], _, _, rfl, fun b o e => ?_, ?_, ?_, (mod61 _).1, (mod61 _).2⟩
        · rw [upd_ne (ne_of_none e ng)]
          exact s1 _ _ e
        · rw [upd_same, List.map_append]
          rfl
        · rw [List.length_append, List.length_singleton]
          omega
    · exact ⟨_, gs, _, _, rfl, s1, hg, by omega, (mod61 _).1, (mod61 _).2⟩
  · rintro σ H' ⟨fo, gs, v3, v4, rfl, s1, hg, hgl, hf0, hf1⟩
    refine ⟨_, rfl, _, rfl, (by show 4 ≤ sizeLine; decide), fun t nt => ?_⟩
    refine q t g _ (s1.trans (same_new nt)) (s1.free nt) ng ⟨gs, 0, fo, 0, upd_same, ?_, hf0, hf1, by decide, by decide⟩
    exact upd_at hg nt

theorem scDraw : FnScope ["tray", "many", "found", "mixed"] ["tray", "many"] (defScope sDraw) := ⟨rfl, rfl, rfl, by decide +kernel, rfl, by decide +kernel, by decide +kernel⟩
theorem ok_draw {f : Addr} {fd : FuncData} {k : Nat} (F : Fun K "_law_draw" "_law_draw" sDraw f fd) : FnOk P w K mg base CX0 (k + 1) f fd ["tray", "many"] spDraw := by
  refine F.ok scDraw (fun vs H Q E h => ?_) (fun cdv A outer s H vs Q E hr h => ?_)
  · obtain ⟨t, g, N, many, rfl, _⟩ := h
    rfl
  obtain ⟨t, g, N, many, rfl, T, hN, hm0, hm1, q⟩ := h
  refine ⟨_, C8.pss_cut (ps_while PassesOwn.never (PW.pt (pw_and (pt_cmpR op_lt (pe_ix ix_list (pv 0) pe_int (fun _ _ => rfl)) pe_int (nomark _)) (pw_and1 (pt_cmpR (op_neD hr.units) (pe_ix ix_list (pv 0) pe_int (fun _ _ => rfl)) (pe_lst pa_nil) (nomark _)))))
      (pss_one (ps_asg (pe_bm PySem.F.plainAttrs_list PySem.F.slot_list_pop PySem.F.type_list_pop mt_popAt (pe_ix ix_list (pv 0) pe_int (fun _ _ => rfl)) (pa_cons pe_int pa_nil)) (pg_sub (pv 0) pe_int set_list))))
    (pss_cons (ps_if (pt_cmpR op_ge (pe_ix ix_list (pv 0) pe_int (fun _ _ => rfl)) pe_int (nomark _))
      (pss_cons (ps_set (i := 2) scDraw.nd rfl (.inl rfl) (pe_op op_mod (pe_ix ix_list (pv 0) pe_int (fun _ _ => rfl)) (pv 1)))
      (pss_cons (ps_asg (pe_op op_fdiv (pe_ix ix_list (pv 0) pe_int (fun _ _ => rfl)) (pv 1)) (pg_sub (pv 0) pe_int set_list))
      (pss_one (ps_ret (pv 2))))) pss_nil)
    (pss_cons (ps_asg (pe_op op_add (pe_ix ix_list (pv 0) pe_int (fun _ _ => rfl)) pe_int) (pg_sub (pv 0) pe_int set_list))
    (pss_cons (ps_set (i := 3) scDraw.nd rfl (.inl rfl) (pe_op op_mod
        (pe_op op_add (pe_op op_mul (pe_op op_add (pe_ix ix_list (pv 0) pe_int (fun _ _ => rfl)) pe_int) (pe_op op_pow (pe_op op_add (pe_ix ix_list (pv 0) pe_int (fun _ _ => rfl)) pe_int) pe_int)) (pe_op op_mul pe_int (pe_ix ix_list (pv 0) pe_int (fun _ _ => rfl))))
        (pe_op op_sub (pe_op op_pow pe_int pe_int) pe_int)))
    (pss_one (ps_ret (pe_op op_mod (pe_op op_fdiv (pe_op op_mod (pe_op op_pow (pv 3) pe_int) (pe_op op_add (pe_op op_pow pe_int pe_int) pe_int)) pe_int) (pv 1))))))), ?_⟩
  obtain ⟨gs0, x0, fo, n, e1, e2, hf0, hf1, hn0, hn1⟩ := T.ex
  have gt : g ≠ t := by
    refine ne_of e2 e1 fun q => ?_
    have q2 := congrArg (fun o : HO => match o with | .lst (V.ref _ :: _) => true | _ => false) q
    cases gs0 <;> simp at q2
  -- what stands behind the while
  refine ⟨fun σ H' => σ = [some (.ref t), some (.int many), none, none] ∧ ∃ (gs : List Int) (x : Int), Kp [t, g] H H' ∧ H' t = some (.lst [.ref g, .int x, .int fo, .int n]) ∧ H' g = some (.lst (gs.map V.int)), ?_, ?_⟩
  · refine ⟨fun m σ H' => σ = [some (.ref t), some (.int many), none, none] ∧ ∃ (gs : List Int) (x : Int), m = gs.length ∧ Kp [t, g] H H' ∧ H' t = some (.lst [.ref g, .int x, .int fo, .int n]) ∧ H' g = some (.lst (gs.map V.int)),
      ⟨_, rfl, gs0, x0, rfl, .refl _ _, e1, e2⟩, ?_⟩
    rintro m σ H1 ⟨rfl, gs, x, rfl, kp, h1, h2⟩
    refine ⟨_, rfl, t, _, _, _, rfl, rfl, SqL.of h1, atI_nat (j := 1) rfl, _, _, rfl, rfl, _, rfl, ite2 (fun c => ?_) (fun c => ?_)⟩
    · refine ⟨_, rfl, t, _, _, _, rfl, rfl, SqL.of h1, atI_nat (j := 0) rfl, Nat.zero_le _, fun p np => ?_⟩
      have h1' : upd H1 p (.lst []) t = _ := upd_at h1 np
      have h2' : upd H1 p (.lst []) g = _ := upd_at h2 np
      have kp' : Kp [t, g] H (upd H1 p (.lst [])) := kp.trans (.new np)
      refine ⟨.list (gs.map PyData.int), .list [], .lst (SqL.of h2') (dpInts gs), .lst (SqL.of upd_same) .nil, PySem.W.shaped_ints gs, by decide +kernel, _, rfl, ?_⟩
      rw [eqv_ints_nil]
      cases gs with
      | nil => exact iteF ⟨rfl, [], x, kp', h1', h2'⟩
      | cons y r =>
        refine iteT ⟨fun σ H' => σ = [some (.ref t), some (.int many), none, none] ∧ ∃ (x : Int), Kp [t, g] H H' ∧ H' t = some (.lst [.ref g, .int x, .int fo, .int n]) ∧ H' g = some (.lst (r.map V.int)), ?_, ?_⟩
        · rintro σ' H' ⟨e, x', k1, k2, k3⟩
          exact ⟨_, Nat.lt_succ_self _, e, r, x', rfl, k1, k2, k3⟩
        · have h3 : upd (upd H1 p (.lst [])) g (.lst (r.map V.int)) t = _ := (upd_ne gt.symm).trans h1'
          refine ⟨_, rfl, t, _, _, _, rfl, rfl, SqL.of h1', atI_nat (j := 0) rfl, .inl ⟨rfl, _, SqL.of h2'⟩, g, _, 0, 0, _, rfl, rfl, h2', by decide, by decide, by simp [seqIndex?], rfl, ?_⟩
          refine ⟨_, rfl, t, _, 1, 1, rfl, rfl, h3, rfl, rfl, y, ?_, upd_same, ?_⟩
          · exact (kp'.trans (.set h2' (by simp))).trans (.set h3 (by simp))
          · rw [upd_ne gt]
            exact upd_same
    · exact iteF ⟨rfl, gs, x, kp, h1, h2⟩
  · rintro σ H1 ⟨rfl, gs, x, kp, h1, h2⟩
    refine ⟨_, rfl, t, _, _, _, rfl, rfl, SqL.of h1, atI_nat (j := 1) rfl, _, _, rfl, rfl, _, rfl, ite2 (fun c => ?_) (fun c => ?_)⟩
    · refine ⟨_, rfl, t, _, _, _, rfl, rfl, SqL.of h1, atI_nat (j := 1) rfl, _, rfl, _, _, rfl, rfl, hm0, ?_⟩
      refine ⟨_, rfl, t, _, _, _, rfl, rfl, SqL.of h1, atI_nat (j := 1) rfl, _, rfl, _, _, rfl, rfl, ⟨hm0, hm1⟩, ?_⟩
      refine ⟨_, rfl, t, _, 1, 1, rfl, rfl, h1, rfl, _, rfl, ?_⟩
      refine q _ _ (Int.emod_nonneg _ (by omega)) (Int.emod_lt_of_pos _ hm0) ⟨gs, _, fo, n, upd_same, (upd_ne gt).trans h2, hf0, hf1, hn0, by omega⟩ (kp.trans (.set h1 (by simp)))
    · refine ⟨_, rfl, t, _, _, _, rfl, rfl, SqL.of h1, atI_nat (j := 3) rfl, _, _, rfl, rfl, _, rfl, t, _, 3, 3, rfl, rfl, h1, rfl, ?_⟩
      have h3 : upd H1 t (.lst [.ref g, .int x, .int fo, .int (n + 1)]) t = _ := upd_same
      have b1 : n ≤ 2 ^ 60 := by omega
      refine ⟨_, rfl, t, _, _, _, rfl, rfl, SqL.of h3, atI_nat (j := 2) rfl, _, _, rfl, rfl, _, rfl, t, _, _, _, rfl, rfl, SqL.of h3, atI_nat (j := 3) rfl, _, _, rfl, rfl, _, _, rfl, rfl, ⟨by decide, by decide, by omega⟩, _, _, rfl, rfl, .inl ⟨by omega, by omega⟩,
        _, rfl, t, _, _, _, rfl, rfl, SqL.of h3, atI_nat (j := 3) rfl, _, _, rfl, rfl, .inl ⟨by decide, by decide⟩, _, _, rfl, rfl, _, _, rfl, rfl, ⟨by decide, by decide, by decide⟩, _, _, rfl, rfl, _, _, rfl, rfl, m61, ?_⟩
      generalize hmix : ((fo + 5) * (n + 1 + 2) ^ Int.toNat 3 + 1000003 * (n + 1)) % (2 ^ Int.toNat 61 - 1) = mx
      have bm : 0 ≤ mx ∧ mx < 2 ^ 61 := hmix ▸ mod61 _
      refine ⟨_, rfl, _, _, rfl, rfl, ⟨by decide, by decide, ?_⟩, _, _, rfl, rfl, ⟨by decide, by decide, by decide⟩, _, _, rfl, rfl, _, _, rfl, rfl, (by show (0 : Int) < 10 ^ Int.toNat 18 + 9; decide), _, _, rfl, rfl, ⟨by decide, by decide⟩, _, rfl, _, _, rfl, rfl, hm0, ?_⟩
      · subst hmix
        show (((fo + 5) * (n + 1 + 2) ^ Int.toNat 3 + 1000003 * (n + 1)) % (2 ^ Int.toNat 61 - 1)).natAbs < 2 ^ 64
        omega
      · exact q _ _ (Int.emod_nonneg _ (by omega)) (Int.emod_lt_of_pos _ hm0) ⟨gs, x, fo, n + 1, upd_same, (upd_ne gt).trans h2, hf0, hf1, by omega, by omega⟩ (kp.trans (.set h1 (by simp)))
end
end FR

namespace FR
open PySem PySem.Spec PyProof.Rows L2
abbrev sWord : Stmt := top 20
section
variable {P : Program} {w : World} {K : PySem.W.Frag} {mg : Str → Option Value} {base : Heap}
structure DrawC (P : Program) (w : World) (K : PySem.W.Frag) (mg : Str → Option Value) (base : Heap) (j : Nat) (f : Addr) (fd : FuncData) : Prop where
  ok : FnOk P w K mg base CX0 j f fd ["tray", "many"] spDraw
  m : mg "_law_draw" = some (.ref f)
  kp : PySem.W.keepIn K (.ref f) = true
  b : Binds K fd ["tray", "many"] []
theorem scWord : FnScope ["tray", "some", "letters", "k"] ["tray"] (defScope sWord) := ⟨rfl, rfl, rfl, by decide +kernel, rfl, by decide +kernel, by decide +kernel⟩
theorem ok_word {f fD : Addr} {fd fdD : FuncData} {k : Nat} (F : Fun K "_law_word" "_law_word" sWord f fd) (D : DrawC P w K mg base k fD fdD) (mr : mg "range" = none) : FnOk P w K mg base CX0 (k + 1) f fd ["tray"] spWord := by
  refine F.ok scWord (fun vs H Q E h => ?_) (fun cdv A outer s H vs Q E hr h => ?_)
  · obtain ⟨t, g, N, rfl, _⟩ := h
    rfl
  obtain ⟨t, g, N, rfl, T, hN, q⟩ := h
  refine ⟨_, pss_cons (ps_set (i := 1) scWord.nd rfl (.inl rfl) (pe_lst (pa_cons pe_str (pa_cons pe_str (pa_cons pe_str (pa_cons pe_str (pa_cons pe_str (pa_cons pe_str (pa_cons pe_str (pa_cons pe_str pa_nil))))))))))
    (pss_cons (ps_if (pt_cmpR op_gt (pe_call D.ok hr (by rfl) D.m D.kp D.b .nil pass0 (pa_cons (pv 0) (pa_cons pe_int pa_nil))) pe_int (nomark _))
      (pss_one (ps_ret (pe_ix ix_list (pv 1) (pe_call D.ok hr (by rfl) D.m D.kp D.b .nil pass0 (pa_cons (pv 0) (pa_cons pe_int pa_nil))) (fun _ _ => rfl)))) pss_nil)
    (pss_cons (ps_set (i := 2) scWord.nd rfl (.inr rfl) pe_str)
    (pss_one (ps_ret (pe_join pe_str (pe_lc (own := [("k", 3)]) (g := gName 3) (tt := tYes) rfl scWord.nd (pi_range1 (by rfl) mr (pa_cons (pe_op op_add pe_int (pe_call D.ok hr (by rfl) D.m D.kp D.b .nil pass0 (pa_cons (pv 0) (pa_cons pe_int pa_nil)))) pa_nil))
      (blkOk_by (N := ["tray", "some", "letters", "k"]) (sc := defScope sWord) (by decide +kernel)) (fun _ _ _ _ _ => pg_name (i := 3) scWord.nd rfl (Or.inl rfl)) (fun _ _ _ _ _ => pts_nil)
      (fun _ _ _ _ _ => pe_ix ix_str (pv 2) (pe_call D.ok hr (by rfl) D.m D.kp D.b .nil pass0 (pa_cons (pv 0) (pa_cons pe_int pa_nil))) (fun _ _ => rfl)))))))), ?_⟩
  refine ⟨(by show 8 ≤ sizeLine; decide), fun sm nsm => ?_⟩
  have T1 := T.same (same_new (o := .lst (someWords.map V.str)) nsm)
  have nS := T.neT nsm
  refine ⟨_, rfl, t, g, N, 3, rfl, T1, by omega, by decide, by decide, fun H2 k2 hk0 hk1 T2 kp2 => ?_⟩
  have hs2 : H2 sm = some (.lst (someWords.map V.str)) := kp2.lst upd_same nS
  refine ⟨_, _, rfl, rfl, _, rfl, ite2 (fun c => ?_) (fun c => ?_)⟩
  · refine ⟨_, rfl, _, rfl, t, g, N + 1, 8, rfl, T2, by omega, by decide, by decide, fun H3 k3 h30 h31 T3 kp3 => ?_⟩
    obtain ⟨s, hs, ok⟩ := some_at h30 h31
    refine ⟨sm, _, _, _, rfl, rfl, SqL.of (kp3.lst hs2 nS), hs, ?_⟩
    exact q _ s ok (T3.mono (by omega)) (((Kp.new nsm).trans kp2).trans kp3)
  · refine ⟨⟨_, rfl⟩, _, rfl, t, g, N + 1, 8, rfl, T2, by omega, by decide, by decide, fun H3 k3 h30 h31 T3 kp3 => ?_⟩
    have kH : Kp [t, g] H H3 := ((Kp.new nsm).trans kp2).trans kp3
    refine ⟨_, _, rfl, rfl, 1 + k3, rfl, by omega, by omega, fun D nD => ?_⟩
    have nDH : H D = none := kH.dm D nD
    refine lc_range (lo := 0) (n := (1 + k3).toNat) (fun i H' => ∃ l : List Nat, H' D = some (.lst (l.map fun c => V.str ⟨#[c]⟩)) ∧ l.length = i ∧ (∀ c ∈ l, 97 ≤ c ∧ c ≤ 122) ∧ TrayAt H' t g (N + 2 + i) ∧ Kp [t, g] H H')
      ⟨[], upd_same, rfl, by simp, (T3.same (same_new nD)).mono (by omega), kH.over nDH⟩ ?_ ?_
    · rintro i H4 hi ⟨l, hD, hl, hc, T4, kp4⟩
      refine ⟨rfl, _, rfl, _, rfl, t, g, N + 2 + i, 26, rfl, T4, by omega, by decide, by decide, fun H5 k5 h50 h51 T5 kp5 => ?_⟩
      have nDt : D ∉ [t, g] := T.neT nDH
      refine ⟨_, k5, _, rfl, rfl, abc_len, abc_at h50 h51, _, kp5.lst hD nDt, ?_, l ++ [97 + k5.toNat], ?_, ?_, ?_, ?_, (kp4.trans kp5).over nDH⟩
      · rw [List.length_map]
        exact small1000 (by omega)
      · rw [upd_same, List.map_append]
        rfl
      · rw [List.length_append, hl]
        rfl
      · intro c m
        rcases List.mem_append.mp m with m | m
        · exact hc c m
        · rw [List.mem_singleton.mp m]
          omega
      · exact (T5.over nDt).mono (by omega)
    · rintro H4 ⟨l, hD, hl, hc, T4, kp4⟩
      have hl8 : l.length ≤ 8 := by omega
      refine ⟨Str.empty, D, l.map fun c => (⟨#[c]⟩ : Str), rfl, rfl, .inl (SqL.of (by rw [hD, List.map_map]; rfl)), ?_, ?_⟩
      · rw [ones_sum, List.length_map]
        show l.length + l.length * 0 ≤ 16777216
        omega
      · refine q _ _ ?_ (T4.mono (by omega)) kp4
        unfold WordOk
        rw [join_one]
        exact ⟨by omega, hl8, hc⟩
end
end FR

namespace FR
open PySem PySem.Spec PyProof.Rows L2
abbrev sWhat : Stmt := top 21
section
variable {P : Program} {w : World} {K : PySem.W.Frag} {mg : Str → Option Value} {base : Heap}
/-- a def that stands at a name of the module -/
structure Cal (P : Program) (w : World) (K : PySem.W.Frag) (mg : Str → Option Value) (base : Heap) (j : Nat) (x : Str) (ps : List Str) (sp : Sp) (f : Addr) (fd : FuncData) : Prop where
  ok : FnOk P w K mg base CX0 j f fd ps sp
  m : mg x = some (.ref f)
  kp : PySem.W.keepIn K (.ref f) = true
  b : Binds K fd ps []
theorem Cal.mono {i j : Nat} {x : Str} {ps : List Str} {sp : Sp} {f : Addr} {fd : FuncData} (c : Cal P w K mg base i x ps sp f fd) (h : i ≤ j) : Cal P w K mg base j x ps sp f fd := ⟨c.ok.mono h, c.m, c.kp, c.b⟩
theorem scWhat : FnScope ["tray", "who", "many", "mights", "lot", "might", "right", "whom"] ["tray", "who", "many", "mights"] (defScope sWhat) := ⟨rfl, rfl, rfl, by decide +kernel, rfl, by decide +kernel, by decide +kernel⟩
theorem ok_what {f fD fW : Addr} {fd fdD fdW : FuncData} {k : Nat} (F : Fun K "_law_what" "_law_what" sWhat f fd) (D : DrawC P w K mg base k fD fdD) (W : Cal P w K mg base k "_law_word" ["tray"] spWord fW fdW) (ml : mg "len" = none) : FnOk P w K mg base CX0 (k + 1) f fd ["tray", "who", "many", "mights"] spWhat := by
  refine F.ok scWhat (fun vs H Q E h => ?_) (fun cdv A outer s H vs Q E hr h => ?_)
  · obtain ⟨t, g, m, N, who, many, ms, rfl, _⟩ := h
    rfl
  obtain ⟨t, g, m, N, who, many, ms, rfl, T, hN, hw0, hw1, hm6, hm, nm, ne, ml3, mok, q⟩ := h
  refine ⟨_, pss_cons (ps_set (i := 4) scWhat.nd rfl (.inl rfl) (pe_call D.ok hr (by rfl) D.m D.kp D.b .nil pass0 (pa_cons (pv 0) (pa_cons pe_int pa_nil))))
    (pss_cons (ps_set (i := 5) scWhat.nd rfl (.inl rfl) (pe_ix ix_list (pv 3) (pe_call D.ok hr (by rfl) D.m D.kp D.b .nil pass0 (pa_cons (pv 0) (pa_cons (pe_callB call_len_seq (by rfl) ml PySem.boot_len (pa_cons (pv 3) pa_nil)) pa_nil))) (fun _ _ => rfl)))
    (C8.pss_cut (ps_if (PW.pt (pw_and (pt_cmpR op_lt (pv 4) pe_int (nomark _)) (pw_and1 (pt_cmpR op_lt (pe_op op_add (pv 1) pe_int) (pv 2) (nomark _)))))
      (pss_cons (ps_set (i := 6) scWhat.nd rfl (.inl rfl) (pe_ix ix_list (pe_lst (pa_cons pe_str (pa_cons pe_str pa_nil))) (pe_call D.ok hr (by rfl) D.m D.kp D.b .nil pass0 (pa_cons (pv 0) (pa_cons pe_int pa_nil))) (fun _ _ => rfl)))
      (pss_cons (ps_set (i := 7) scWhat.nd rfl (.inl rfl) (pe_op op_add (pe_op op_add (pv 1) pe_int) (pe_call D.ok hr (by rfl) D.m D.kp D.b .nil pass0 (pa_cons (pv 0) (pa_cons (pe_op op_sub (pe_op op_sub (pv 2) pe_int) (pv 1)) pa_nil)))))
      (pss_one (ps_ret (pe_tup (pa_cons (pe_ix ix_list (pe_lst (pa_cons pe_str (pa_cons pe_str (pa_cons pe_str (pa_cons pe_str pa_nil))))) (pv 4) (fun _ _ => rfl)) (pa_cons (pv 5) (pa_cons (pv 6) (pa_cons (pv 7) pa_nil))))))))) pss_nil)
    (pss_one (ps_ret (pe_tup (pa_cons pe_str (pa_cons (pv 5) (pa_cons (pe_call W.ok hr (by rfl) W.m W.kp W.b .nil pass0 (pa_cons (pv 0) pa_nil)) pa_nil)))))))), ?_⟩
  have l0 : 0 < ms.length := Nat.pos_of_ne_zero fun e => ne (List.length_eq_zero_iff.mp e)
  refine ⟨_, rfl, t, g, N, 6, rfl, T, by omega, by decide, by decide, fun H1 lot hl0 hl6 T1 k1 => ?_⟩
  have hm1 := k1.lst hm nm
  refine ⟨_, rfl, _, rfl, _, rfl, m, _, rfl, .inl (SqL.of hm1), t, g, N + 1, (ms.length : Int), (by rw [List.length_map]; rfl), T1, by omega, by omega, by omega, fun H2 j hj0 hj1 T2 k2 => ?_⟩
  have hm2 := k2.lst hm1 nm
  obtain ⟨mt, mm, hmt⟩ := strs_at (ms := ms) hj0 hj1
  have kH2 := k1.trans k2
  refine ⟨m, _, _, _, rfl, rfl, SqL.of hm2, hmt, ?_⟩
  refine ⟨fun σ H' => σ = [some (.ref t), some (.int who), some (.int many), some (.ref m), some (.int lot), some (.str mt), none, none] ∧ H' = H2, ?_, ?_⟩
  · refine ⟨_, rfl, _, _, rfl, rfl, _, rfl, ite2 (fun c => ?_) (fun c => iteF ⟨rfl, rfl⟩)⟩
    have hl4 : lot < 4 := of_decide_eq_true c
    refine ⟨_, rfl, _, _, rfl, rfl, _, rfl, _, _, rfl, rfl, _, rfl, ite2 (fun c2 => ?_) (fun c2 => ⟨rfl, rfl⟩)⟩
    have hwm : who + 1 < many := of_decide_eq_true c2
    refine ⟨(by show 2 ≤ sizeLine; decide), fun p np => ?_⟩
    have T2' := T2.same (same_new (o := .lst [.str "use", .str "lead"]) np)
    refine ⟨_, rfl, t, g, N + 2, 2, rfl, T2', by omega, by decide, by decide, fun H3 k3 h30 h31 T3 kp3 => ?_⟩
    obtain ⟨ki, hki, eki⟩ := kind_at h30 h31
    refine ⟨p, _, _, _, rfl, rfl, SqL.of (kp3.lst upd_same (T2.neT np)), eki, ?_⟩
    refine ⟨_, rfl, _, _, rfl, rfl, _, rfl, _, rfl, _, _, rfl, rfl, _, rfl, _, _, rfl, rfl, t, g, N + 3, many - 1 - who, rfl, T3, by omega, by omega, by omega, fun H4 k4 h40 h41 T4 kp4 => ?_⟩
    refine ⟨_, _, rfl, rfl, ?_⟩
    refine ⟨(by show 4 ≤ sizeLine; decide), fun p2 np2 => ?_⟩
    obtain ⟨de, hde, ede⟩ := deal_at hl0 hl4
    refine ⟨_, rfl, p2, _, _, _, rfl, rfl, SqL.of upd_same, ede, _, rfl, _, rfl, _, rfl, (by show 4 ≤ sizeLine; decide), fun p3 np3 => ?_⟩
    have kH : Kp [t, g] H (upd H4 p2 (.lst [.str "give", .str "give", .str "give", .str "take"])) := (((kH2.trans (.new np)).trans kp3).trans kp4).trans (.new np2)
    have T5 := (T4.same (same_new np2)).same (same_new (o := .tup [.str de, .str mt, .str ki, .int (who + 1 + k4)]) np3)
    rcases hde with rfl | rfl
    · exact q _ p3 (.give mt ki (who + 1 + k4)) (kH.dm _ np3) upd_same ⟨mok _ mm, hki, by omega, by omega⟩ (T5.mono (by omega)) (kH.trans (.new np3))
    · exact q _ p3 (.take mt ki (who + 1 + k4)) (kH.dm _ np3) upd_same ⟨mok _ mm, hki, by omega, by omega⟩ (T5.mono (by omega)) (kH.trans (.new np3))
  · rintro σ H' ⟨rfl, rfl⟩
    refine ⟨_, rfl, _, rfl, t, g, N + 2, rfl, T2, by omega, fun H3 s ok T3 kp3 => ?_⟩
    refine ⟨(by show 3 ≤ sizeLine; decide), fun p3 np3 => ?_⟩
    have kH := kH2.trans kp3
    exact q _ p3 (.use mt s) (kH.dm _ np3) upd_same ⟨mok _ mm, ok⟩ ((T3.same (same_new np3)).mono (by omega)) (kH.trans (.new np3))
end
end FR

namespace FR
open PySem PySem.Spec PyProof.Rows L2
abbrev sWorld : Stmt := top 22
abbrev sMost : Stmt := top 23
section
variable {P : Program} {w : World} {K : PySem.W.Frag} {mg : Str → Option Value} {base : Heap}
theorem scMost : FnScope ["tray"] ["tray"] (defScope sMost) := ⟨rfl, rfl, rfl, by decide +kernel, rfl, by decide +kernel, by decide +kernel⟩
theorem ok_most {f fD : Addr} {fd fdD : FuncData} {k : Nat} (F : Fun K "_law_most" "_law_most" sMost f fd) (D : DrawC P w K mg base k fD fdD) : FnOk P w K mg base CX0 (k + 1) f fd ["tray"] spMost := by
  refine F.ok scMost (fun vs H Q E h => ?_) (fun cdv A outer s H vs Q E hr h => ?_)
  · obtain ⟨t, g, N, rfl, _⟩ := h
    rfl
  obtain ⟨t, g, N, rfl, T, hN, q⟩ := h
  refine ⟨_, pss_one (ps_ret (pe_ix ix_list (pe_lst (pa_cons pe_int (pa_cons pe_int (pa_cons pe_int (pa_cons pe_int pa_nil))))) (pe_op op_fdiv (pe_call D.ok hr (by rfl) D.m D.kp D.b .nil pass0 (pa_cons (pv 0) (pa_cons pe_int pa_nil))) pe_int) (fun _ _ => rfl))), ?_⟩
  refine ⟨(by show 4 ≤ sizeLine; decide), fun p np => ?_⟩
  refine ⟨_, rfl, t, g, N, 16, rfl, T.same (same_new np), by omega, by decide, by decide, fun H1 k1 h0 h1 T1 kp1 => ?_⟩
  have kH := (Kp.new (o := .lst [.int 6, .int 15, .int 30, .int 110]) np).trans kp1
  have hp := kp1.lst upd_same (T.neT np)
  refine ⟨_, _, rfl, rfl, ⟨by decide, by decide⟩, p, _, _, .int (([6, 15, 30, 110] : List Int).getD (k1 / 5).toNat 0), rfl, rfl, SqL.of hp, ?_, ?_⟩
  · have hk : (k1 / 5).toNat < 4 := by omega
    refine at_of (j := (k1 / 5).toNat) (by omega) ?_
    have q : ∀ j : Fin 4, ([.int 6, .int 15, .int 30, .int 110] : List V)[j.val]? = some (.int (([6, 15, 30, 110] : List Int).getD j.val 0)) := by decide
    exact q ⟨_, hk⟩
  · have hk : (k1 / 5).toNat < 4 := by omega
    have b : ∀ j : Fin 4, 0 ≤ ([6, 15, 30, 110] : List Int).getD j.val 0 ∧ ([6, 15, 30, 110] : List Int).getD j.val 0 ≤ 110 := by decide
    exact q _ _ (b ⟨_, hk⟩).1 (b ⟨_, hk⟩).2 T1 kH

abbrev nWorld : List Str := ["tray", "most", "many", "mights", "known", "acts", "turn", "who", "other", "k", "one", "two"]
theorem scWorld : FnScope nWorld ["tray", "most"] (defScope sWorld) := ⟨rfl, rfl, rfl, by decide +kernel, rfl, by decide +kernel, by decide +kernel⟩
theorem ok_world {f fD fW fT : Addr} {fd fdD fdW fdT : FuncData} {k : Nat} (F : Fun K "_law_world" "_law_world" sWorld f fd) (D : DrawC P w K mg base k fD fdD) (W : Cal P w K mg base k "_law_word" ["tray"] spWord fW fdW)
    (T : Cal P w K mg base k "_law_what" ["tray", "who", "many", "mights"] spWhat fT fdT) (mr : mg "range" = none) (mx : mg "max" = none) (mz : mg "zip" = none) (mt : mg "tuple" = none) : FnOk P w K mg base CX0 (k + 1) f fd ["tray", "most"] spWorld := by
  refine F.ok scWorld (fun vs H Q E h => ?_) (fun cdv A outer s H vs Q E hr h => ?_)
  · obtain ⟨t, g, N, most, rfl, _⟩ := h
    rfl
  obtain ⟨t, g, N, most, rfl, TA, hm0, hm1, hN, q⟩ := h
  refine ⟨_, pss_cons (ps_set (i := 2) scWorld.nd rfl (.inr rfl) (pe_ix ix_list (pe_lst (pa_cons (pe_op op_add pe_int (pe_call D.ok hr (by rfl) D.m D.kp D.b .nil pass0 (pa_cons (pv 0) (pa_cons pe_int pa_nil)))) (pa_cons (pe_op op_add pe_int (pe_call D.ok hr (by rfl) D.m D.kp D.b .nil pass0 (pa_cons (pv 0) (pa_cons pe_int pa_nil)))) (pa_cons pe_int (pa_cons pe_int pa_nil)))))
        (pe_call D.ok hr (by rfl) D.m D.kp D.b .nil pass0 (pa_cons (pv 0) (pa_cons pe_int pa_nil))) (fun _ _ => rfl)))
    (pss_cons (ps_setLc (i := 3) (own := [("k", 9)]) (g := gName 9) (tt := tYes) (by rfl) scWorld.nd rfl rfl (sw_true rfl rfl rfl (by decide +kernel)) (pi_range1 (by rfl) mr (pa_cons (pe_op op_add pe_int (pe_call D.ok hr (by rfl) D.m D.kp D.b .nil pass0 (pa_cons (pv 0) (pa_cons pe_int pa_nil)))) pa_nil))
        (blkOk_by (N := nWorld) (sc := defScope sWorld) (by decide +kernel)) (fun _ _ _ _ _ => pg_name (i := 9) scWorld.nd rfl (Or.inl rfl)) (fun _ _ _ _ _ => pts_nil)
        (fun _ _ _ _ _ => pe_call W.ok hr (by rfl) W.m W.kp W.b .nil pass0 (pa_cons (pv 0) pa_nil)))
    (pss_cons (ps_setLc (i := 4) (own := [("k", 9)]) (g := gName 9) (tt := tYes) (by rfl) scWorld.nd rfl rfl (sw_true rfl rfl rfl (by decide +kernel)) (pi_range1 (by rfl) mr (pa_cons (pv 2) pa_nil))
        (blkOk_by (N := nWorld) (sc := defScope sWorld) (by decide +kernel)) (fun _ _ _ _ _ => pg_name (i := 9) scWorld.nd rfl (Or.inl rfl)) (fun _ _ _ _ _ => pts_nil)
        (fun _ _ _ _ _ => pe_op op_rep (pe_lst (pa_cons pe_int pa_nil)) (pv 2)))
    (pss_cons (ps_set (i := 5) scWorld.nd rfl (.inl rfl) (pe_lst pa_nil))
    (pss_cons (ps_for PassesOwn.never rfl (pi_range1 (by rfl) mr (pa_cons (pe_call D.ok hr (by rfl) D.m D.kp D.b .nil pass0 (pa_cons (pv 0) (pa_cons (pe_op op_add (pv 1) pe_int) pa_nil))) pa_nil)) (pg_name (i := 6) scWorld.nd rfl (.inl rfl))
      (pss_cons (ps_set (i := 7) scWorld.nd rfl (.inl rfl) (pe_call D.ok hr (by rfl) D.m D.kp D.b .nil pass0 (pa_cons (pv 0) (pa_cons (pv 2) pa_nil))))
      (C8.pss_cut (ps_if (pt_cmpR op_gt (pe_call D.ok hr (by rfl) D.m D.kp D.b .nil pass0 (pa_cons (pv 0) (pa_cons pe_int pa_nil))) pe_int (nomark _))
          (pss_cons (ps_set (i := 8) scWorld.nd rfl (.inl rfl) (pe_call D.ok hr (by rfl) D.m D.kp D.b .nil pass0 (pa_cons (pv 0) (pa_cons (pv 2) pa_nil))))
          (pss_one (ps_asg (pe_lc (own := [("one", 10), ("two", 11)]) (g := gTup K 2 (gCons (gName 10) (gCons (gName 11) gNil))) (tt := tYes) rfl scWorld.nd
              (pi_zip (by rfl) mz (pa_cons (pe_ix ix_list (pv 4) (pv 7) (fun _ _ => rfl)) (pa_cons (pe_ix ix_list (pv 4) (pv 8) (fun _ _ => rfl)) pa_nil)))
              (blkOk_by (N := nWorld) (sc := defScope sWorld) (by decide +kernel)) (fun _ _ _ _ _ => pg_tup rfl (pgs_cons (pg_name (i := 10) scWorld.nd rfl (Or.inl rfl)) (pgs_cons (pg_name (i := 11) scWorld.nd rfl (Or.inl rfl)) pgs_nil))) (fun _ _ _ _ _ => pts_nil)
              (fun _ _ _ _ _ => pe_callB (call_max2 rfl) (by rfl) mx (by decide +kernel) (pa_cons (pv 10) (pa_cons (pv 11) pa_nil)))) (pg_sub (pv 4) (pv 7) set_list)))) pss_nil)
      (pss_cons (ps_expr (pe_bm PySem.F.plainAttrs_list PySem.F.slot_list_append PySem.F.type_list_append mt_append (pv 5) (pa_cons (pe_tup (pa_cons (pv 7) (pa_cons (pe_op op_add (pe_ix ix_list (pe_ix ix_list (pv 4) (pv 7) (fun _ _ => rfl)) (pv 7) (fun _ _ => rfl)) pe_int)
          (pa_cons (pe_callTy call_tuple_of (by rfl) mt (by decide +kernel) (pa_cons (pe_ix ix_list (pv 4) (pv 7) (fun _ _ => rfl)) pa_nil)) (pa_cons (pe_call T.ok hr (by rfl) T.m T.kp T.b .nil pass0 (pa_cons (pv 0) (pa_cons (pv 7) (pa_cons (pv 2) (pa_cons (pv 3) pa_nil))))) pa_nil))))) pa_nil)))
      (pss_one (ps_asg (pe_op op_add (pe_ix ix_list (pe_ix ix_list (pv 4) (pv 7) (fun _ _ => rfl)) (pv 7) (fun _ _ => rfl)) pe_int) (pg_sub (pe_ix ix_list (pv 4) (pv 7) (fun _ _ => rfl)) (pv 7) set_list)))))))
    (pss_one (ps_ret (pe_lst (pa_cons (pv 2) (pa_cons (pv 5) pa_nil))))))))), ?_⟩
  -- many
  refine ⟨_, rfl, t, g, N, 6, rfl, TA, by omega, by decide, by decide, fun H1 k1 h10 h11 T1 kp1 => ?_⟩
  refine ⟨_, _, rfl, rfl, _, rfl, t, g, N + 1, 5, rfl, T1, by omega, by decide, by decide, fun H2 k2 h20 h21 T2 kp2 => ?_⟩
  refine ⟨_, _, rfl, rfl, (by show 4 ≤ sizeLine; decide), fun p np => ?_⟩
  refine ⟨_, rfl, t, g, N + 2, 4, rfl, T2.same (same_new np), by omega, by decide, by decide, fun H3 k3 h30 h31 T3 kp3 => ?_⟩
  obtain ⟨many, emv, b1, b6⟩ : ∃ many : Nat, atI ([.int (1 + k1), .int (2 + k2), .int 3, .int 4] : List V) k3 = some (.int many) ∧ 1 ≤ many ∧ many ≤ 6 := by
    have e3 : k3 = 0 ∨ k3 = 1 ∨ k3 = 2 ∨ k3 = 3 := by omega
    rcases e3 with rfl | rfl | rfl | rfl
    · exact ⟨(1 + k1).toNat, by rw [Int.toNat_of_nonneg (by omega)]; rfl, by omega, by omega⟩
    · exact ⟨(2 + k2).toNat, by rw [Int.toNat_of_nonneg (by omega)]; rfl, by omega, by omega⟩
    · exact ⟨3, rfl, by omega, by omega⟩
    · exact ⟨4, rfl, by omega, by omega⟩
  refine ⟨p, _, _, _, rfl, rfl, SqL.of (kp3.lst upd_same (T2.neT np)), emv, ?_⟩
  have kH3 : Kp [t, g] H H3 := ((kp1.trans kp2).trans (.new np)).trans kp3
  -- mights
  refine ⟨_, rfl, t, g, N + 3, 3, rfl, T3, by omega, by decide, by decide, fun H4 k4 h40 h41 T4 kp4 => ?_⟩
  have kH4 := kH3.trans kp4
  refine ⟨_, _, rfl, rfl, 1 + k4, rfl, by omega, by omega, fun m nm => ?_⟩
  have nmH : H m = none := kH4.dm m nm
  have nmT : m ∉ [t, g] := TA.neT nmH
  refine lc_range (lo := 0) (n := (1 + k4).toNat) (fun i H' => ∃ ms : List Str, H' m = some (.lst (ms.map V.str)) ∧ ms.length = i ∧ (∀ s ∈ ms, WordOk s) ∧ TrayAt H' t g (N + 4 + 12 * i) ∧ Kp [t, g] H H')
    ⟨[], upd_same, rfl, by simp, T4.same (same_new nm), kH4.over nmH⟩ ?_ ?_
  · rintro i H5 hi ⟨ms, hm, hl, hok, T5, kp5⟩
    refine ⟨rfl, _, rfl, t, g, N + 4 + 12 * i, rfl, T5, by omega, fun H6 s ok T6 kp6 => ?_⟩
    refine ⟨_, kp6.lst hm nmT, ?_, ms ++ [s], ?_, ?_, ?_, (T6.over nmT).mono (by omega), (kp5.trans kp6).over nmH⟩
    · rw [List.length_map]
      exact small1000 (by omega)
    · rw [upd_same, List.map_append]
      rfl
    · rw [List.length_append, hl]
      rfl
    · intro c mc
      rcases List.mem_append.mp mc with mc | mc
      · exact hok c mc
      · rw [List.mem_singleton.mp mc]
        exact ok
  rintro H5 ⟨ms, hm5, hl5, hok, T5, kp5⟩
  have ml3 : ms.length ≤ 3 := by omega
  have mne : ms ≠ [] := fun e => by
    rw [e, List.length_nil] at hl5
    omega
  -- known
  refine ⟨_, rfl, _, rfl, by omega, by omega, fun kn nkn => ?_⟩
  have nknH : H kn = none := kp5.dm kn nkn
  have nknT : kn ∉ [t, g] := TA.neT nknH
  have nknm : kn ≠ m := ne_new hm5 nkn
  refine lc_range (lo := 0) (n := ((many : Nat) : Int).toNat) (fun i H' => ∃ as : List Addr, H' kn = some (.lst (as.map V.ref)) ∧ as.length = i ∧ RowsAt H' as (List.replicate i (List.replicate many 0)) ∧ as.Nodup ∧
      (∀ a ∈ as, a ∉ [t, g, kn, m] ∧ H a = none) ∧ H' m = some (.lst (ms.map V.str)) ∧ TrayAt H' t g (N + 4 + 12 * 3) ∧ Kp [t, g] H H')
    ⟨[], upd_same, rfl, .nil, List.nodup_nil, by simp, (upd_ne nknm.symm).trans hm5, (T5.same (same_new nkn)).mono (by omega), kp5.over nknH⟩ ?_ ?_
  · rintro i H6 hi ⟨as, hkn, hl, hrow, hnd, hap, hm6, T6, kp6⟩
    refine ⟨rfl, (by show 1 ≤ sizeLine; decide), fun z nz => ?_⟩
    refine ⟨_, rfl, z, _, _, rfl, rfl, upd_same, by omega, by omega, ?_, fun a na => ?_⟩
    · show 1 * ((many : Nat) : Int).toNat ≤ sizeLine
      exact Nat.le_of_lt (small1000 (by omega))
    · have naz : a ≠ z := ne_new upd_same na
      have na6 : H6 a = none := (upd_ne naz).symm.trans na
      have nakn : a ≠ kn := ne_new hkn na6
      have ha : upd (upd H6 z (.lst [.int 0])) a (.lst (List.replicate ((many : Nat) : Int).toNat ([V.int 0] : List V)).flatten) a = some (.lst ((List.replicate many (0 : Int)).map V.int)) := by
        rw [upd_same, rep_zero, Int.toNat_natCast]
      have k7 : Kp [] H6 (upd (upd H6 z (.lst [.int 0])) a (.lst (List.replicate ((many : Nat) : Int).toNat ([V.int 0] : List V)).flatten)) := (Kp.new nz).trans (.new na)
      have nas : a ∉ as := fun ma => by
        obtain ⟨j, hj⟩ := List.getElem?_of_mem ma
        obtain ⟨r, _, e⟩ := paired_at hrow hj
        rw [na6] at e
        cases e
      have k8 : Kp [kn] H6 (upd (upd (upd H6 z (.lst [.int 0])) a (.lst (List.replicate ((many : Nat) : Int).toNat ([V.int 0] : List V)).flatten)) kn (.lst (as.map V.ref ++ [.ref a]))) :=
        (k7.mono (by simp)).trans (.set (k7.lst hkn (by simp)) (by simp))
      refine ⟨_, k7.lst hkn (by simp), ?_, as ++ [a], ?_, ?_, ?_, ?_, ?_, ?_, ?_, ?_⟩
      · rw [List.length_map]
        exact small1000 (by omega)
      · rw [upd_same, List.map_append]
        rfl
      · rw [List.length_append, hl]
        rfl
      · rw [List.replicate_succ']
        refine paired_snoc (F := fun (b : Addr) (r : List Int) => upd (upd (upd H6 z (.lst [.int 0])) a (.lst (List.replicate ((many : Nat) : Int).toNat ([V.int 0] : List V)).flatten)) kn (.lst (as.map V.ref ++ [.ref a])) b = some (.lst (r.map V.int))) (hrow.keep k8 fun b mb => ?_) ((upd_ne nakn).trans ha)
        have q := (hap b mb).1
        simp only [List.mem_cons, List.not_mem_nil, or_false, not_or] at q ⊢
        exact q.2.2.1
      · rw [List.nodup_append]
        refine ⟨hnd, by simp, fun x mx y my => ?_⟩
        rw [List.mem_singleton.mp my]
        exact fun e => nas (e ▸ mx)
      · intro b mb
        rcases List.mem_append.mp mb with mb | mb
        · exact hap b mb
        · rw [List.mem_singleton.mp mb]
          refine ⟨?_, kp6.dm a na6⟩
          have q := TA.neT (kp6.dm a na6)
          simp only [List.mem_cons, List.not_mem_nil, or_false, not_or] at q ⊢
          exact ⟨q.1, q.2, nakn, ne_new hm6 na6⟩
      · exact k8.lst hm6 (by simp; exact nknm.symm)
      · simp only [List.mem_cons, List.not_mem_nil, or_false, not_or] at nknT
        exact T6.keep k8 (by simp; exact fun e => nknT.1 e.symm) (by simp; exact fun e => nknT.2 e.symm)
      · exact ((kp6.trans (k7.mono (by simp))).over nknH)
  rintro H6 ⟨as, hkn, hl, hrow, hnd, hap, hm6, T6, kp6⟩
  rw [Int.toNat_natCast] at hrow hl
  -- acts
  refine ⟨Nat.zero_le _, fun ac nac => ?_⟩
  have nacH : H ac = none := kp6.dm ac nac
  have naT := TA.neT nacH
  have W0 : WAt H (upd H6 ac (.lst [])) t g m kn ac ms as [] [] (List.replicate many (List.replicate many 0)) (N + 40) := by
    have s6 : Same H6 (upd H6 ac (.lst [])) := same_new nac
    refine {
      hkn := s6 _ _ hkn, hac := upd_same, hm := s6 _ _ hm6, rows := hrow.keep (S := []) (.of s6) (by simp), nd := hnd, apart := fun a h => ?_, nkn := ?_, nac := ?_, nm := nmT, acts := .nil, T := T6.same s6, kp := kp6.over nacH, fkn := nknH, fac := nacH, frows := fun a h => (hap a h).2 }
    · have q := (hap a h).1
      simp only [List.mem_cons, List.not_mem_nil, or_false, not_or] at q ⊢
      refine ⟨q.1, q.2.1, q.2.2.1, ?_, q.2.2.2⟩
      obtain ⟨j, hj⟩ := List.getElem?_of_mem h
      obtain ⟨r, _, e⟩ := paired_at hrow hj
      exact ne_of_none e nac
    · simp only [List.mem_cons, List.not_mem_nil, or_false, not_or] at nknT ⊢
      exact ⟨nknT.1, nknT.2, ne_of_none hkn nac, nknm⟩
    · simp only [List.mem_cons, List.not_mem_nil, or_false, not_or] at naT ⊢
      exact ⟨naT.1, naT.2, ne_new hm6 nac⟩
  generalize upd H6 ac (.lst []) = H7 at W0
  -- for turn in range(..)
  refine ⟨_, rfl, _, rfl, _, _, rfl, rfl, t, g, N + 40, most + 1, rfl, W0.T, by omega, by omega, by omega, fun H8 tn h80 h81 T8 kp8 => ?_⟩
  have W8 := W0.keep kp8 T8
  refine ⟨tn, rfl, by omega, by omega, for_range (lo := 0) (n := tn.toNat) (fun i σ H' => ∃ v6 v7 v8, σ = [some (.ref t), some (.int most), some (.int (many : Int)), some (.ref m), some (.ref kn), some (.ref ac), v6, v7, v8, none, none, none] ∧
      ∃ as ps acts known, WAt H H' t g m kn ac ms as ps acts known (N + 41 + 20 * i) ∧ Wd many acts known ∧ acts.length = i)
    ⟨none, none, none, rfl, as, [], [], _, W8, .nil, rfl⟩ ?_ ?_⟩
  · rintro i σ H9 hi ⟨v6, v7, v8, rfl, as, ps, acts, known, W9, wd, hla⟩
    obtain ⟨hkl, hrl⟩ := wd.lens
    -- who
    refine ⟨_, rfl, _, rfl, t, g, _, many, rfl, W9.T, by omega, by omega, by omega, fun HA who ha0 ha1 TA' kpA => ?_⟩
    have WA := W9.keep kpA TA'
    obtain ⟨wi, ewi⟩ : ∃ wi : Nat, who = (wi : Int) := ⟨who.toNat, by omega⟩
    have hwi : wi < known.length := by omega
    obtain ⟨row, hrow⟩ := get_some hwi
    refine ⟨fun σ H' => ∃ v8, σ = [some (.ref t), some (.int most), some (.int (many : Int)), some (.ref m), some (.ref kn), some (.ref ac), some (.int (0 + (i : Int))), some (.int who), v8, none, none, none] ∧
        ∃ as row', WAt H H' t g m kn ac ms as ps acts (known.set wi row') (N + 44 + 20 * i) ∧ (row' = row ∨ ∃ (j : Nat) (ro : List Int), known[j]? = some ro ∧ row' = List.zipWith max row ro), ?_, ?_⟩
    · refine ⟨_, rfl, t, g, _, 3, rfl, WA.T, by omega, by decide, by decide, fun HB d hb0 hb1 TB' kpB => ?_⟩
      have WB := WA.keep kpB TB'
      refine ⟨_, _, rfl, rfl, _, rfl, ite2 (fun c => ?_) (fun c => ?_)⟩
      · refine ⟨_, rfl, _, rfl, t, g, _, many, rfl, WB.T, by omega, by omega, by omega, fun HC oi hc0 hc1 TC' kpC => ?_⟩
        have WC := WB.keep kpC TC'
        obtain ⟨oj, eoj⟩ : ∃ oj : Nat, oi = (oj : Int) := ⟨oi.toNat, by omega⟩
        have hoj : oj < known.length := by omega
        obtain ⟨ro, hro⟩ := get_some hoj
        obtain ⟨ra, era, hra, mra⟩ := WC.row hrow
        obtain ⟨oa, eoa, hoa, moa⟩ := WC.row hro
        have hll : row.length = many := hrl _ (List.mem_of_getElem? hrow)
        have hol : ro.length = many := hrl _ (List.mem_of_getElem? hro)
        refine ⟨_, rfl, _, rfl, kn, _, _, _, rfl, rfl, SqL.of WC.hkn, at_of ewi mra, _, rfl, _, rfl, kn, _, _, _, rfl, rfl, SqL.of WC.hkn, at_of eoj moa, ra, oa, _, _, rfl, SqL.of hra, SqL.of hoa, fun D nD => ?_⟩
        refine lc_it (walk_zip (K := K) (a := ra) (b := oa) (xs := row.map V.int) (ys := ro.map V.int) (n := many) (by rw [List.length_map, List.length_map, hll, hol, Nat.min_self]))
          (fun i H' => Kp [D] HC H' ∧ Same HC H' ∧ H' D = some (.lst (((List.zipWith max row ro).take i).map V.int))) ⟨.new nD, same_new nD, upd_same⟩ (fun i H' _ h => ⟨h.2.1.seq (SqL.of hra), h.2.1.seq (SqL.of hoa)⟩) ?_ ?_
        · rintro i2 x HD HE hi2 ⟨kD, sD, hD⟩ ⟨T, x1, y1, rfl, nT, rfl, e1, e2⟩
          obtain ⟨z1, hz1, rfl⟩ := map_int_at e1
          obtain ⟨z2, hz2, rfl⟩ := map_int_at e2
          refine ⟨T, _, rfl, sqT upd_same, rfl, _, _, rfl, _, _, rfl, rfl, rfl, _, rfl, _, rfl, _, _, rfl, ?_⟩
          have nTD : T ≠ D := ne_new hD nT
          refine ⟨_, (upd_ne nTD.symm).trans hD, ?_, (kD.trans (.new nT)).trans (.set ((upd_ne nTD.symm).trans hD) (by simp)), fun b o e => ?_, ?_⟩
          · rw [List.length_map]
            exact small1000 (Nat.le_trans (List.length_take_le _ _) (by omega))
          · rw [upd_ne (ne_of_none e nD), upd_ne (ne_of_none (sD _ _ e) nT)]
            exact sD _ _ e
          · rw [upd_same, zip_take hz1 hz2, List.map_append, max_int]
            rfl
        · rintro HD ⟨kD, sD, hD⟩
          rw [List.take_of_length_le (by rw [List.length_zipWith]; omega)] at hD
          have nDH : H D = none := WC.kp.dm D nD
          have WD := WC.keep (H' := HD) (.of sD) (WC.T.same sD)
          have hjl : wi < (as.map V.ref).length := (List.getElem?_eq_some_iff.mp mra).1
          refine ⟨_, rfl, _, rfl, kn, _, who, wi, rfl, rfl, WD.hkn, ixN_of ewi hjl, ?_⟩
          refine ⟨_, rfl, as.set wi D, _, ?_, .inr ⟨oj, ro, hro, rfl⟩⟩
          rw [map_set_ref]
          refine (WD.put hD ?_ ?_ nDH).mono (by omega)
          · have q := WC.T.neT nD
            simp only [List.mem_cons, List.not_mem_nil, or_false, not_or] at q ⊢
            exact ⟨q.1, q.2, ne_new WC.hkn nD, ne_new WC.hac nD, ne_new WC.hm nD⟩
          · intro md
            obtain ⟨j, hj⟩ := List.getElem?_of_mem md
            obtain ⟨r, _, e⟩ := paired_at WC.rows hj
            rw [nD] at e
            cases e
      · refine ⟨v8, rfl, as, row, ?_, .inl rfl⟩
        have e : known.set wi row = known := by
          obtain ⟨hl, he⟩ := List.getElem?_eq_some_iff.mp hrow
          rw [← he, List.set_getElem_self]
        rw [e]
        exact WB.mono (by omega)
    · rintro σ HB ⟨v8, rfl, as, row', WB, hr'⟩
      have hl' : row'.length = many := by
        rcases hr' with rfl | ⟨j, ro, hj, rfl⟩
        · exact hrl _ (List.mem_of_getElem? hrow)
        · rw [List.length_zipWith, hrl _ (List.mem_of_getElem? hrow), hrl _ (List.mem_of_getElem? hj), Nat.min_self]
      obtain ⟨c, hc⟩ := get_some (l := row') (i := wi) (by omega)
      have hself : (known.set wi row')[wi]? = some row' := List.getElem?_set_self hwi
      obtain ⟨ra, era, hra, mra⟩ := WB.row hself
      refine ⟨_, rfl, .inl ⟨rfl, _, SqL.of WB.hac⟩, _, rfl, _, rfl, _, rfl, kn, _, _, _, rfl, rfl, SqL.of WB.hkn, at_of ewi mra, _, rfl, ra, _, _, _, rfl, rfl, SqL.of hra, at_of ewi (ints_at hc), _, _, rfl, rfl,
        _, rfl, _, rfl, kn, _, _, _, rfl, rfl, SqL.of WB.hkn, at_of ewi mra, ra, _, rfl, .inl ⟨SqL.of hra, fun n nn => ?_⟩⟩
      have W1 := WB.keep (.new (o := .tup (row'.map V.int)) nn) (WB.T.same (same_new nn))
      have hn1 : upd HB n (.tup (row'.map V.int)) n = _ := upd_same
      generalize upd HB n (.tup (row'.map V.int)) = H1 at W1 hn1
      refine ⟨_, rfl, _, rfl, _, rfl, _, rfl, t, g, m, _, who, many, ms, rfl, W1.T, by omega, ha0, ha1, by omega, W1.hm, W1.nm, mne, ml3, hok, fun H2 qa wt nq hq ok T2 kp2 => ?_⟩
      have W2 := W1.keep kp2 T2
      refine ⟨(by show 4 ≤ sizeLine; decide), fun p np => ?_⟩
      have k3 : Kp [t, g] H2 (upd H2 p (.tup [.int who, .int (c + 1), .ref n, .ref qa])) := .new np
      have W3 := W2.keep k3 (W2.T.same (same_new np))
      have hact : ActAt (upd H2 p (.tup [.int who, .int (c + 1), .ref n, .ref qa])) p ⟨(wi : Int), c + 1, row', wt⟩ := by
        refine ⟨n, qa, ?_, k3.tp _ _ (kp2.tp _ _ hn1), k3.tp _ _ hq⟩
        rw [upd_same, ewi]
      have hpl : (ps.map V.ref).length = i := by
        rw [List.length_map, paired_len W3.acts, hla]
      refine ⟨ac, _, _, rfl, rfl, W3.hac, by rw [hpl]; exact small1000 (by omega), ?_⟩
      have W4 := W3.app hact
      have hra4 : upd (upd H2 p (.tup [.int who, .int (c + 1), .ref n, .ref qa])) ac (.lst (ps.map V.ref ++ [.ref p])) ra = some (.lst (row'.map V.int)) := by
        obtain ⟨y, ey, e⟩ := paired_at W4.rows era
        rw [hself] at ey
        cases ey
        exact e
      refine ⟨_, rfl, _, rfl, kn, _, _, _, rfl, rfl, SqL.of W4.hkn, at_of ewi mra, _, rfl, ra, _, _, _, rfl, rfl, SqL.of hra4, at_of ewi (ints_at hc), _, _, rfl, rfl,
        _, rfl, _, rfl, kn, _, _, _, rfl, rfl, SqL.of W4.hkn, at_of ewi mra, _, rfl, ra, _, who, wi, rfl, rfl, hra4, ixN_of ewi (by rw [List.length_map]; omega), ?_⟩
      have W5 := W4.turn (row := row'.set wi (c + 1)) era hra4
      rw [List.set_set, List.map_set] at W5
      refine ⟨_, _, _, rfl, as, _, _, _, W5.mono (by omega), wd.step hrow hr' hc (by rw [← ewi]; exact ok), ?_⟩
      rw [List.length_append, hla]
      rfl
  · rintro σ H9 ⟨v6, v7, v8, rfl, as, ps, acts, known, W9, wd, hla⟩
    refine ⟨_, rfl, _, rfl, (by show 2 ≤ sizeLine; decide), fun r nr => ?_⟩
    have s9 : Same H9 (upd H9 r (.lst [.int (many : Int), .ref ac])) := same_new nr
    have W10 := W9.keep (.of s9) (W9.T.same s9)
    have hla2 : (acts.length : Int) ≤ most := by omega
    refine q _ r ac ps many acts known b1 b6 hla2 wd (W9.kp.dm r nr) nacH ?_ naT upd_same W10.hac W10.acts (W10.T.mono (by omega)) W10.kp
    have q := W9.T.neT nr
    simp only [List.mem_cons, List.not_mem_nil, or_false, not_or] at q ⊢
    exact ⟨q.1, q.2, ne_new W9.hac nr⟩
end
end FR

/-! Sorting by tuples that begin with ints: sorted(xs), sorted(xs, key=f) with a def f, any length. -/
namespace FR
open PySem PySem.Spec PyProof.Rows L2 SrtO
/-! ### the order of lists of ints -/
theorem lex_tot : ∀ a b : List Int, HT.lexLt a b = false → HT.lexLt b a = false → a = b
  | [], [], _, _ => rfl
  | [], _ :: _, h, _ => nomatch h
  | _ :: _, [], _, h => nomatch h
  | x :: a, y :: b, h, k => by
    rw [HT.lexLt_cons] at h k
    by_cases e : x = y
    · rw [if_pos e] at h
      rw [if_pos e.symm] at k
      rw [e, lex_tot a b h k]
    · rw [if_neg e, decide_eq_false_iff_not] at h
      rw [if_neg (fun q => e q.symm), decide_eq_false_iff_not] at k
      omega
theorem lex_irr : ∀ a : List Int, HT.lexLt a a = false
  | [] => rfl
  | x :: a => by
    rw [HT.lexLt_cons, if_pos rfl]
    exact lex_irr a
theorem lex_asym : ∀ a b : List Int, HT.lexLt a b = true → HT.lexLt b a = false
  | [], [], h => nomatch h
  | [], _ :: _, _ => rfl
  | _ :: _, [], h => nomatch h
  | x :: a, y :: b, h => by
    rw [HT.lexLt_cons] at h ⊢
    by_cases e : x = y
    · rw [if_pos e] at h
      rw [if_pos e.symm]
      exact lex_asym a b h
    · rw [if_neg e, decide_eq_true_eq] at h
      rw [if_neg (fun q => e q.symm), decide_eq_false_iff_not]
      omega
theorem lex_trans : ∀ a b c : List Int, HT.lexLt a b = true → HT.lexLt b c = true → HT.lexLt a c = true
  | [], [], _, h, _ => nomatch h
  | [], _ :: _, [], _, k => nomatch k
  | [], _ :: _, _ :: _, _, _ => rfl
  | _ :: _, [], _, h, _ => nomatch h
  | _ :: _, _ :: _, [], _, k => nomatch k
  | x :: a, y :: b, z :: c, h, k => by
    rw [HT.lexLt_cons] at h k ⊢
    by_cases e : x = y
    · rw [if_pos e] at h
      by_cases f : y = z
      · rw [if_pos f] at k
        rw [if_pos (e.trans f)]
        exact lex_trans a b c h k
      · rw [if_neg f] at k
        rw [if_neg (e ▸ f), e]
        exact k
    · rw [if_neg e, decide_eq_true_eq] at h
      by_cases f : y = z
      · rw [← f, if_neg e, decide_eq_true_eq]
        exact h
      · rw [if_neg f, decide_eq_true_eq] at k
        rw [if_neg (by omega), decide_eq_true_eq]
        omega
theorem lex_swo {α : Type} (k : α → List Int) : Swo fun x y => HT.lexLt (k x) (k y) := by
  refine ⟨fun x y h => lex_asym _ _ h, fun x y z h1 h2 => ?_⟩
  cases h : HT.lexLt (k z) (k x) with
  | false => rfl
  | true =>
    cases h3 : HT.lexLt (k x) (k y) with
    | true => exact absurd (lex_trans _ _ _ h h3) (by rw [h2]; exact Bool.false_ne_true)
    | false =>
      rw [lex_tot _ _ h1 h3, h] at h2
      cases h2
/-! ### a tuple that begins with ints -/
/-- v is a tuple that begins with the ints ns -/
def Lead (h : Heap) (v : Value) (ns : List Int) : Prop := ∃ (a : Addr) (o : Obj) (us rs : List Value) (n : Nat), v = .ref a ∧ h.get? a = some o ∧ o.cls = .type "tuple" ∧ o.data = .seq (us ++ rs).toArray n ∧ IntsAre us ns
theorem Lead.keeps {h h' : Heap} {v : Value} {ns : List Int} (p : Lead h v ns) (k : ∀ b o, h.get? b = some o → o.cls = .type "tuple" → h'.get? b = some o) : Lead h' v ns := by
  obtain ⟨a, o, us, rs, n, e, ho, hc, hd⟩ := p
  exact ⟨a, o, us, rs, n, e, k _ _ ho hc, hc, hd⟩
section
variable {prog : Program} {w : World} {A : Around} {E : Value → Shared → Prop} {s : Shared}
theorem less_ints (c : Bool) {p q : Int} {t u : Tok} {Q : Bool → Shared → Prop} (h : Q (decide (p < q)) s) : wpAny (model prog w) A (oneLt' c (.int p t) (.int q u)) Q (fun _ _ => False) s := by
  cases c
  · exact PySem.W.kat_one _ _ (PyProof.Rows.lt_int (Q := PySem.W.BoolBack Q) h)
  · exact oneLt_int h
/-- walking two such tuples: the ints decide -/
theorem lead_run {fin b : Bool} {r : Bool} {rest : List (Value × Value)} : ∀ (ns ms : List Int) (us ws : List Value) (i : Nat), IntsAre us ns → IntsAre ws ms → ns.length = ms.length → ns ≠ ms → HT.lexLt ns ms = r →
    PySem.W.KatLex prog w A b fin (fun q s' => s' = s ∧ q = r) (us.zip ws ++ rest) i s
  | [], [], _, _, _, _, _, _, h, _ => absurd rfl h
  | [], _ :: _, _, _, _, _, _, h, _, _ => nomatch h
  | _ :: _, [], _, _, _, _, _, h, _, _ => nomatch h
  | x :: ns, y :: ms, _, _, i, .cons _ t hu, .cons _ u hw, hl, hn, hr => by
    refine PySem.W.kat_cons (SeqAt.EqAt.int_int x t y u prog w _ _ ?_)
    refine PySem.W.kat_go (fun e => ?_) (fun e => ?_)
    · have ex : x = y := by simpa using e
      rw [HT.lexLt_cons, if_pos ex] at hr
      exact PySem.W.kat_yes (lead_run ns ms _ _ (i + 1) hu hw (Nat.succ.inj hl) (fun q => hn (by rw [ex, q])) hr)
    · have ex : ¬ x = y := by simpa using e
      rw [HT.lexLt_cons, if_neg ex] at hr
      exact PySem.W.kat_no (less_ints _ ⟨rfl, hr⟩)
/-- a tuple beside itself: its things are the same ones -/
theorem same_run {b : Bool} : ∀ (us : List Value) (i : Nat), PySem.W.KatLex prog w A b false (fun q s' => s' = s ∧ q = false) (us.zip us) i s
  | [], _ => PySem.W.kat_nil ⟨rfl, rfl⟩
  | v :: us, i => PySem.W.kat_cons (SeqAt.EqAt.same v prog w _ _ (PySem.W.kat_yes (same_run us (i + 1))))
/-- any two of the list's keys compare by their ints: they are of one length, and where they are the same the keys are one -/
theorem lead_cmp {ks : List Value} {k : Value → List Int} {d : Nat} (hp : ∀ v ∈ ks, Lead s.heap v (k v)) (hd : ∀ v ∈ ks, (k v).length = d) (hu : ∀ v ∈ ks, ∀ u ∈ ks, k v = k u → v = u) :
    Cmp prog w A s (tuples' true) (fun p => p.1 ∈ ks) (lt2 fun v u => HT.lexLt (k v) (k u)) := by
  intro p q hm hm'
  show wpAny (model prog w) A (keyLt' (tuples' true) p.1 q.1) (fun r s' => s' = s ∧ r = HT.lexLt (k p.1) (k q.1)) (fun _ _ => False) s
  obtain ⟨a, o, us, rs, n, e, ho, hc, hdt, hi⟩ := hp _ hm
  obtain ⟨a', o', us', rs', n', e', ho', hc', hdt', hi'⟩ := hp _ hm'
  by_cases hk : k p.1 = k q.1
  · have hpq := hu _ hm _ hm' hk
    rw [← hpq, lex_irr, e]
    refine PySem.W.kat_lt ho hdt ho hdt ?_
    rw [decide_eq_false (Nat.lt_irrefl _)]
    exact same_run _ 0
  · have fin : ∀ r, HT.lexLt (k p.1) (k q.1) = r → PySem.W.KatLex prog w A true (decide ((us ++ rs).toArray.size < (us' ++ rs').toArray.size)) (fun q s' => s' = s ∧ q = r) (us.zip us' ++ rs.zip rs') 0 s := fun r er =>
      lead_run _ _ us us' 0 hi hi' (by rw [hd _ hm, hd _ hm']) hk er
    have f2 := fin _ rfl
    generalize HT.lexLt (k p.1) (k q.1) = r at f2
    rw [e, e']
    refine PySem.W.kat_lt ho hdt ho' hdt' ?_
    have hl : us.length = us'.length := by rw [IntsAre.length hi, IntsAre.length hi', hd _ hm, hd _ hm']
    have ez : (us ++ rs).toArray.toList.zip (us' ++ rs').toArray.toList = us.zip us' ++ rs.zip rs' := by
      show (us ++ rs).zip (us' ++ rs') = _
      exact List.zip_append hl
    rw [ez]
    exact f2
theorem lead_firsts {h : Heap} {k : Value → List Int} : ∀ {ks : List Value}, (∀ v ∈ ks, Lead h v (k v)) → (∀ v ∈ ks, 1 ≤ (k v).length) → ∃ fs : List Value, PySem.W.KatTups h ks fs ∧ fs.length = ks.length ∧ ∀ f ∈ fs, ∃ x t, f = Value.int x t
  | [], _, _ => ⟨[], PySem.W.KatTups.nil, rfl, fun _ hm => by simp at hm⟩
  | v :: ks, hp, hd => by
    obtain ⟨fs, h1, h2, h3⟩ := lead_firsts (ks := ks) (fun u m => hp u (List.mem_cons_of_mem _ m)) (fun u m => hd u (List.mem_cons_of_mem _ m))
    obtain ⟨a, o, us, rs, n, e, ho, hc, hdt, hi⟩ := hp v (List.mem_cons_self ..)
    have h1' := hd v (List.mem_cons_self ..)
    generalize k v = ns0 at hi h1'
    subst e
    cases hi with
    | nil => exact absurd h1' (by simp)
    | @cons x t us ns r =>
      refine ⟨.int x t :: fs, PySem.W.KatTups.cons ho hc hdt (by simp) h1, by rw [List.length_cons, List.length_cons, h2], fun f hm => ?_⟩
      rcases List.mem_cons.mp hm with rfl | hm
      · exact ⟨x, t, rfl⟩
      · exact h3 f hm
theorem lead_kind {ks : List Value} {k : Value → List Int} {Q : SortKind → Shared → Prop} (h0 : 0 < ks.length) (hp : ∀ v ∈ ks, Lead s.heap v (k v)) (hd : ∀ v ∈ ks, 1 ≤ (k v).length) (h : Q (tuples' true) s) :
    wpAny (model prog w) A (keyKind' ks.toArray) Q E s := by
  obtain ⟨fs, h1, h2, h3⟩ := lead_firsts hp hd
  have e : (Value.type "int" != Value.type "tuple") = true := by first | decide +kernel | rfl | decide
  refine PySem.W.kat_kind (T := .type "int") h1 (by omega) (fun f hm => ?_) (by rfl) (by rw [e]; exact h)
  obtain ⟨x, t, rfl⟩ := h3 f hm
  exact PySem.W.Looks.now
end
end FR

/-! Rules of calls that the proofs need beside the layer's: sum and min of a tuple of ints, set of a list of ints. -/
namespace FR
open PySem PySem.Spec PyProof.Rows L2
theorem pre_take (ns : List Int) : ∀ j, preSum (fun i => ns.getD i 0) j = (ns.take j).sum
  | 0 => by
    rw [List.take_zero]
    rfl
  | j + 1 => by
    have ih := pre_take ns j
    show preSum (fun i => ns.getD i 0) j + ns.getD j 0 = (ns.take (j + 1)).sum
    rw [ih, List.take_add_one]
    cases e : ns[j]? with
    | none => simp [List.getD, e]
    | some z => simp [List.getD, e]
section
variable {prog : Program} {w : World} {A : Around} {E : Value → Shared → Prop} {s : Shared} {l : Addr} {its : List Value} {ns : List Int}
/-- what an iterator over a tuple is at its start -/
theorem tup_start (hl : IsTup s.heap l its.toArray) {Q : Value → Shared → Prop}
    (h : ∀ hp : Heap, hp = s.heap.push { cls := .type "tuple_iterator", data := .fields #[.ref l, .int 0 0] } → l ≠ s.heap.objs.size → hp.IsTupleIter s.heap.objs.size l 0 → hp.IsTuple l its.toArray →
      (∀ b ∈ [s.heap.objs.size, l], b < hp.objs.size) → Q (.ref s.heap.objs.size) { s with heap := hp }) : wpAny (model prog w) A (pyIter (.ref l)) Q E s := by
  have lt : l < s.heap.objs.size := by
    obtain ⟨o, e, r⟩ := hl
    exact Heap.lt_size e
  refine wpAny_pyIter_tuple hl (h _ rfl (Nat.ne_of_lt lt) ⟨_, Heap.get?_push_size _ rfl, rfl, rfl⟩ (Heap.IsTuple.push hl _) fun b mb => ?_)
  have sz : (s.heap.push { cls := .type "tuple_iterator", data := .fields #[.ref l, .int 0 0] }).objs.size = s.heap.objs.size + 1 := Heap.size_push ..
  simp only [List.mem_cons, List.not_mem_nil, or_false] at mb
  rw [sz]
  rcases mb with rfl | rfl
  · exact Nat.lt_succ_self _
  · exact Nat.lt_succ_of_lt lt
theorem kept_push {hp : Heap} {o : Obj} (hk : ∀ b u, b ∉ [s.heap.objs.size] → (s.heap.push o).get? b = some u → hp.get? b = some u) : ∀ b u, s.heap.get? b = some u → hp.get? b = some u := fun b u e => by
  have lt := Heap.lt_size e
  refine hk b u ?_ (Heap.get?_push_of_some _ e)
  simp only [List.mem_cons, List.not_mem_nil, or_false]
  exact Nat.ne_of_lt lt
theorem tup_val (hi : IntsAre its ns) : ∀ (i : Nat) (v : Value), its.toArray[i]? = some v → ∃ t, v = .int (ns.getD i 0) t := fun i v e =>
  PyProof.Rows.IntsAre.int_at hi i v (by simpa using e)
theorem sum_tup {Q : Value → Shared → Prop} (hh : A.handled = none) (hl : IsTup s.heap l its.toArray) (hi : IntsAre its ns)
    (h : ∀ hp tk t', (∀ b o, s.heap.get? b = some o → hp.get? b = some o) → Q (.int ns.sum t') { s with heap := hp, toks := tk }) : wpAny (model prog w) A (call (.builtin "sum") [.ref l]) Q E s := by
  refine call_sum_walkG (tup_start hl fun hp ep ne st0 st1 hf => ?_)
  subst ep
  refine ⟨_, _, _, _, _, _, fun i => ns.getD i 0, rfl, Walks.tuple (A := A.in1) (by simpa using hh) s.heap.objs.size l ne its.toArray, ⟨st0, st1⟩, hf, tup_val hi, fun h2 tk t' hk => ?_⟩
  have e : preSum (fun i => ns.getD i 0) its.toArray.size = ns.sum := by
    rw [pre_take, List.take_of_length_le]
    have q := IntsAre.length hi
    simp
    omega
  rw [e]
  exact h h2 tk t' (kept_push hk)
theorem min_tup {Q : Value → Shared → Prop} (hh : A.handled = none) (hl : IsTup s.heap l its.toArray) (hi : IntsAre its ns) (hne : 0 < ns.length)
    (h : ∀ hp tk m t', (∀ b o, s.heap.get? b = some o → hp.get? b = some o) → m ∈ ns → (∀ a, a ∈ ns → m ≤ a) → Q (.int m t') { s with heap := hp, toks := tk }) : wpAny (model prog w) A (call (.builtin "min") [.ref l]) Q E s := by
  have hlen := IntsAre.length hi
  refine call_min_walk (tup_start hl fun hp ep ne st0 st1 hf => ?_)
  subst ep
  refine ⟨_, _, _, _, _, _, _, rfl, Walks.tuple (A := A.in1) (by simpa using hh) s.heap.objs.size l ne its.toArray, ⟨st0, st1⟩, hf, by simp; omega, CmpOf.ints_lt (fun i => ns.getD i 0) (tup_val hi), fun v h2 tk hv hk => ?_⟩
  obtain ⟨t, rfl⟩ := tup_val hi _ _ hv
  obtain ⟨b1, b2⟩ := argBest_lt (fun i => ns.getD i 0) (its.toArray.size - 1)
  have sz : its.toArray.size = ns.length := by simp; omega
  refine h h2 tk _ t (kept_push hk) ?_ fun a ma => ?_
  · exact PySem.getD_mem (by omega)
  · obtain ⟨j, hj, rfl⟩ := List.mem_iff_getElem.mp ma
    have q := b2 j (by omega)
    rw [show ns[j] = ns.getD j 0 by simp [List.getD, hj]]
    exact q
end
section
variable {X : Cx}
theorem cr_sumT (hc : X.calm = true) : CallR X (.builtin "sum") (fun vs H Q => ∃ (a : Addr) (ns : List Int), vs = [V.ref a] ∧ SqT X.K H a (ns.map V.int) ∧ Q (.int ns.sum) H) := by
  intro pins s σ H vs us Q I r h
  obtain ⟨a, ns, rfl, hs, q⟩ := h
  obtain ⟨its, rv, hl, hz⟩ := I.tuple hs
  rw [Vals.ref1 r]
  exact sum_tup (I.ok.hd hc) hl rv.ints fun hp tk t' hk => ⟨.int _, H, I.kept hk, ⟨_, rfl⟩, q⟩
theorem cr_minT (hc : X.calm = true) : CallR X (.builtin "min") (fun vs H Q => ∃ (a : Addr) (ns : List Int), vs = [V.ref a] ∧ SqT X.K H a (ns.map V.int) ∧ 0 < ns.length ∧ ∀ m, m ∈ ns → (∀ y, y ∈ ns → m ≤ y) → Q (.int m) H) := by
  intro pins s σ H vs us Q I r h
  obtain ⟨a, ns, rfl, hs, hne, q⟩ := h
  obtain ⟨its, rv, hl, hz⟩ := I.tuple hs
  rw [Vals.ref1 r]
  exact min_tup (I.ok.hd hc) hl rv.ints hne fun hp tk m t' hk h1 h2 => ⟨.int _, H, I.kept hk, ⟨_, rfl⟩, q m h1 h2⟩
end
section
variable {X : Cx} {CX : CXT} {k n : Nat} {f : Addr} {fd : FuncData} {ps ks : List Str} {sp : Sp} {E : XK} {x : Str} {p pos : Pos} {kws : List Keyword} {tk : TA} {g : List Value → List Value → List Value} {gV : List V → List V → List V}
/-- f(k = v, ..): keywords alone -/
theorem pe_callKw (F : FnOk X.prog X.w X.K X.mg X.base CX k f fd ps sp) (hr : Room k X.A) (hg : Gl X x) (hm : X.mg x = some (.ref f)) (hk : PySem.W.keepIn X.K (.ref f) = true) (hb : KBn X.K fd ps 0 ks g gV) (hx : Passes CX X E) (hkw : PK X kws tk)
    (hall : (backToKw pos (keywordEach kws X.env)).all (·.1.isSome) = true := by rfl) (hks : (backToKw pos (keywordEach kws X.env)).filterMap (·.1) = ks := by rfl) (hdb : (x == ("__debug__" : Str)) = false := by decide)
    (hpl : ((backTo pos (starEach [] X.env)).any (·.1) || (backToKw pos (keywordEach kws X.env)).any (·.1.isNone)) = false := by rfl) : PE X (.Call (.Name x p) [] kws pos) (tCallN 0 ks.length sp gV E tNil tk) := by
  constructor
  intro pins s σ H Q I h
  refine wpAny_Call_Name_kw (ld_glob I hg hm (PySem.W.callWith_KW0 (h₀ := X.base) I.ok.mod.kin hk hall (thn (hkw.run pos pins s σ H _ I h) fun ws s2 ⟨zs, H2, I2, rz, l1, l2, q2⟩ => ⟨I2.kIn, ?_⟩) hpl) hdb)
  rw [hks]
  exact run_fnN (us := []) (vs := []) F hr hb hx I2 .nil rz rfl l2 q2
/-- how such a call binds, for a def without defaults -/
theorem kbn_of {K : PySem.W.Frag} {nm qual : Str} {st : Stmt} (F : Fun K nm qual st f fd) (n : Nat)
    (h : ∀ (kV doc pm : Value) (an : Option Addr) (cdv ct : Value) (us ws : List Value), us.length = n → ws.length = ks.length → bindArgs (PySem.W.fnOf nm qual (defArgs st) (defBody st) (defScope st) .none kV doc pm an cdv ct) ⟨us, ks.zip ws⟩ = pure (ps.zip (g us ws)))
    (hrel : ∀ {vs : List V} {us : List Value} {zs : List V} {ws : List Value}, Vals vs us → Vals zs ws → Vals (gV vs zs) (g us ws)) : KBn K fd ps n ks g gV := by
  obtain ⟨oc, od, kV, doc, pm, an, cdv, ct, osl, rfl, lk, hcd⟩ := F.ex
  exact ⟨fun s us ws _ l1 l2 => .of_eq (h kV doc pm an cdv ct us ws l1 l2), hrel⟩
def swap2 {α : Type} : List α → List α → List α
  | _, [m, d] => [d, m]
  | _, _ => []
theorem swap2_rel {vs : List V} {us : List Value} {zs : List V} {ws : List Value} (_ : Vals vs us) (r : Vals zs ws) : Vals (swap2 vs zs) (swap2 us ws) := by
  cases r with
  | nil => exact .nil
  | cons a t => cases t with
    | nil => exact .nil
    | cons b t => cases t with
      | nil => exact .cons b (.cons a .nil)
      | cons c t => exact .nil
def kwsOnly {α : Type} (_ ws : List α) : List α := ws
theorem kwsOnly_rel {vs : List V} {us : List Value} {zs : List V} {ws : List Value} (_ : Vals vs us) (r : Vals zs ws) : Vals (kwsOnly vs zs) (kwsOnly us ws) := r
end
end FR

/-! sorted(xs, key=f), f a def that gives a tuple of ints, any length. -/
namespace FR
open PySem PySem.Spec PyProof.Rows L2 SrtO
/-- v is a tuple of the ints ns, at least one -/
def IsInts (h : Heap) (v : Value) (ns : List Int) : Prop := ∃ (a : Addr) (o : Obj) (us : List Value) (n : Nat), v = .ref a ∧ h.get? a = some o ∧ o.cls = .type "tuple" ∧ o.data = .seq us.toArray n ∧ IntsAre us ns
theorem IsInts.lead {h : Heap} {v : Value} {ns : List Int} (p : IsInts h v ns) : Lead h v ns := by
  obtain ⟨a, o, us, n, e, ho, hc, hd, hi⟩ := p
  exact ⟨a, o, us, [], n, e, ho, hc, by rw [List.append_nil]; exact hd, hi⟩
section
variable {prog : Program} {w : World} {A : Around} {E : Value → Shared → Prop} {s : Shared}
theorem even_run {b : Bool} : ∀ (ns : List Int) (us ws : List Value) (i : Nat), IntsAre us ns → IntsAre ws ns → PySem.W.KatLex prog w A b false (fun q s' => s' = s ∧ q = false) (us.zip ws) i s
  | [], _, _, i, .nil, .nil => PySem.W.kat_nil ⟨rfl, rfl⟩
  | x :: ns, _, _, i, .cons _ t hu, .cons _ u hw => by
    refine PySem.W.kat_cons (SeqAt.EqAt.int_int x t x u prog w _ _ ?_)
    refine PySem.W.kat_go (fun e => ?_) (fun e => ?_)
    · exact PySem.W.kat_yes (even_run ns _ _ (i + 1) hu hw)
    · exact absurd e (by simp)
theorem ints_lt {v u : Value} {ns ms : List Int} (hv : IsInts s.heap v ns) (hu : IsInts s.heap u ms) (hl : ns.length = ms.length) :
    wpAny (model prog w) A (keyLt' (tuples' true) v u) (fun r s' => s' = s ∧ r = HT.lexLt ns ms) (fun _ _ => False) s := by
  obtain ⟨a, o, us, n, e, ho, hc, hd, hi⟩ := hv
  obtain ⟨a', o', ws, n', e', ho', hc', hd', hi'⟩ := hu
  have hsz : us.length = ws.length := by rw [IntsAre.length hi, IntsAre.length hi', hl]
  rw [e, e']
  refine PySem.W.kat_lt ho hd ho' hd' ?_
  have ef : decide (us.toArray.size < ws.toArray.size) = false := by
    rw [List.size_toArray, List.size_toArray, hsz]
    exact decide_eq_false (Nat.lt_irrefl _)
  rw [ef]
  by_cases hk : ns = ms
  · subst hk
    rw [lex_irr]
    exact even_run ns us ws 0 hi hi'
  · have q := lead_run (prog := prog) (w := w) (A := A) (s := s) (fin := false) (b := true) (r := HT.lexLt ns ms) (rest := []) ns ms us ws 0 hi hi' hl hk rfl
    rw [List.append_nil] at q
    exact q
theorem leads_kind {ks : List Value} {Q : SortKind → Shared → Prop} (h0 : 0 < ks.length) (hp : ∀ v ∈ ks, ∃ ns, Lead s.heap v ns ∧ 1 ≤ ns.length) (h : Q (tuples' true) s) : wpAny (model prog w) A (keyKind' ks.toArray) Q E s := by
  have hk : ∀ v ∈ ks, Lead s.heap v (Classical.epsilon fun ns => Lead s.heap v ns ∧ 1 ≤ ns.length) ∧ 1 ≤ (Classical.epsilon fun ns => Lead s.heap v ns ∧ 1 ≤ ns.length).length := fun v hv => Classical.epsilon_spec (hp v hv)
  exact lead_kind (k := fun v => Classical.epsilon fun ns => Lead s.heap v ns ∧ 1 ≤ ns.length) h0 (fun v hv => (hk v hv).1) (fun v hv => (hk v hv).2) h
end
/-- the keys beside the items -/
def KeyedBy (k : V → List Int) (h : Heap) : List Value → List V → Prop := Paired fun v x => IsInts h v (k x)
theorem paired_zip {α β : Type} {F : α → β → Prop} : ∀ {l : List α} {m : List β}, Paired F l m → ∀ p ∈ l.zip m, F p.1 p.2
  | _, _, .nil, p, hp => by simp at hp
  | _, _, .cons q t, p, hp => by
    rw [List.zip_cons_cons] at hp
    rcases List.mem_cons.mp hp with rfl | hp
    · exact q
    · exact paired_zip t p hp
theorem paired_in {F : Value → V → Prop} : ∀ {l : List Value} {m : List V}, Paired F l m → Paired (fun v x => F v x ∧ x ∈ m) l m
  | _, _, .nil => .nil
  | _, _, .cons q t => .cons ⟨q, List.mem_cons_self⟩ (Paired.mapP (paired_in t) fun _ _ z => ⟨z.1, List.mem_cons_of_mem _ z.2⟩)
theorem paired_unmap {F : Value → V → Prop} {g : Value → V} : ∀ {l m : List Value}, Paired F l (m.map g) → Paired (fun v u => F v (g u)) l m
  | [], [], _ => .nil
  | _ :: _, [], h => nomatch h
  | [], _ :: _, h => nomatch h
  | _ :: _, _ :: _, .cons q t => .cons q (paired_unmap t)
theorem srtd_less2 {α : Type} {lt : α → α → Bool} : ∀ {l : List α}, l.length < 2 → Srtd lt l
  | [], _ => List.Pairwise.nil
  | [x], _ => srtd_one x
  | _ :: _ :: _, h => absurd h (by simp)
def rSortKey (K : PySem.W.Frag) (sp : Sp) (E0 : XK) (f : Addr) : List V → List V → Hp → VK → Prop := fun vs zs H Q => ∃ (a : Addr) (xs : List V) (k : V → List Int) (d : Nat), vs = [V.ref a] ∧ zs = [V.ref f] ∧ SqL K H a xs ∧ 1 ≤ d ∧
  (∀ x ∈ xs, ∃ t, x = V.ref t) ∧ (∀ x ∈ xs, (k x).length = d) ∧
  (∀ x ∈ xs, ∀ H', Same H H' → sp [x] H' (fun z H2 => Same H' H2 ∧ ∃ p, z = .ref p ∧ H2 p = some (.tup ((k x).map V.int))) E0) ∧
  ∀ ys p H', Srtd (fun x y => HT.lexLt (k x) (k y)) ys → Stb (fun x y => HT.lexLt (k x) (k y)) ys xs → Same H H' → H' p = none → H p = none → Q (.ref p) (upd H' p (.lst ys))
section
variable {X : Cx} {CX : CXT} {n : Nat} {f : Addr} {sp : Sp} {E0 : XK} {pins : List (Addr × Obj)} {σ : L2.St} {H : Hp}
/-- a record of ours stays through a call -/
theorem un_kept {H1 H2 : Hp} {h1 h2 : Heap} {b : Addr} {o : Obj} {s : Shared} (I : Inv X pins σ H s) (u : Un (frs X.stack) [] H1 H2 h1 h2) (fb : FpOk X pins H1 b) (e : h1.get? b = some o) : h2.get? b = some o ∧ FpOk X pins H2 b :=
  ⟨u.keep b o e fb.1 (fun z => (List.mem_cons.mp (I.stkSub b z)).elim fb.2.1 fb.2.2.1) List.not_mem_nil, u.free b o e fb.1 List.not_mem_nil, fb.2⟩
theorem key_call (F : FnR X.prog X.w X.K X.mg X.base CX n f sp) (hr : Room n X.A.in1.in1) (hx : ∀ outer H s e s', ¬ CX outer H s E0 e s') {H' : Hp} {s' : Shared} {x : V} {u : Value} {Qk : VK} (I : Inv X pins σ H' s') (r : RelV x u) (h : sp [x] H' Qk E0) :
    wpAny (model X.prog X.w) X.A.in1.in1 (call (.ref f) [u]) (fun w s2 => ∃ v H2, Un (frs X.stack) [] H' H2 s'.heap s2.heap ∧ Inv X pins σ H2 s2 ∧ RelV v w ∧ Qk v H2) (fun _ _ => False) s' := by
  refine wpAny_call (codeAny_mono (F X.A.in1.in1 X.stack s' H' [u] [x] Qk E0 hr I.env0.in1.in1 (.cons r .nil) h) fun rr s2 hq => ?_)
  cases rr with
  | error e => exact (hx _ _ _ _ _ hq).elim
  | ok fl =>
    cases fl with
    | next => exact False.elim hq
    | brk => exact False.elim hq
    | cont => exact False.elim hq
    | ret w =>
      obtain ⟨v, H2, os, bare, un, hok, rv, q⟩ := (show CE X.stack X.prog X.w H' _ _ w s2 from hq)
      exact ⟨v, H2, un, I.call' os un hok bare (fun b y => absurd y List.not_mem_nil), rv, q⟩
def KeysIn (k : V → List Int) (H : Hp) : List Value → List V → Prop := Paired fun v x => ∃ p, v = .ref p ∧ H p = some (.tup ((k x).map V.int))
theorem KeysIn.keeps {k : V → List Int} {H H' : Hp} (s : Same H H') {vs : List Value} {xs : List V} (r : KeysIn k H vs xs) : KeysIn k H' vs xs := Paired.mapP r fun v x ⟨p, e, h⟩ => ⟨p, e, s _ _ h⟩
theorem KeysIn.ints {k : V → List Int} {P : Program} {w : World} {h : Heap} (ok : HOk P w H h) {vs : List Value} {xs : List V} (r : KeysIn k H vs xs) : KeyedBy k h vs xs := Paired.mapP r fun v x ⟨p, e, hp⟩ => by
  obtain ⟨_, us, r2, o, ho, hc, m, hd⟩ := ok _ _ hp
  exact ⟨p, o, us, m, e, ho, hc, hd, r2.ints⟩
/-- what is left behind the keys: the sort itself, the list -/
theorem key_end {A : Around} {a kS : Addr} {keys its : List Value} {xs : List V} {e e1 d : Nat} {k : V → List Int} {s : Shared} {R : PySem.Fin → Shared → Prop} {E' : Value → Shared → Prop} (I : Inv X pins σ H s) (fa : FpOk X pins H a) (fk : FpOk X pins H kS) (hka : kS ≠ a)
    (nk : s.heap.get? kS = some (seqObj "list" keys.toArray e)) (na : s.heap.get? a = some (seqObj "list" #[] e1)) (kp : KeysIn k H keys xs) (rv : Vals xs its) (href : ∀ x ∈ xs, ∃ t, x = V.ref t) (hd : ∀ x ∈ xs, (k x).length = d) (hd1 : 1 ≤ d) (hz : xs.length ≤ sizeLine)
    (h : ∀ ys s', Srtd (fun x y => HT.lexLt (k x) (k y)) ys → Stb (fun x y => HT.lexLt (k x) (k y)) ys xs → Inv X pins σ (upd H a (.lst ys)) s' → R (.done (.ret .none)) s') :
    wpAny (model X.prog X.w) A (PyProof.Rows.ksk_end a false its.toArray e1 (.ref kS) keys.toArray) R E' s := by
  obtain ⟨eb, er⟩ := refs_back rv href
  have hl : its.length = xs.length := rv.length.symm
  have hkl : keys.length = xs.length := Paired.length kp
  have kb : KeyedBy k s.heap keys xs := kp.ints I.hok
  have ez : (keys.toArray.zip its.toArray).toList = keys.zip its := PyProof.Rows.ksk_zip _ _
  have hmem : ∀ p ∈ keys.zip its, IsInts s.heap p.1 (k (backV p.2)) ∧ backV p.2 ∈ xs := fun p hp => by
    have q : Paired (fun v u => IsInts s.heap v (k (backV u)) ∧ backV u ∈ xs) keys its := by
      have q2 : Paired (fun v x => IsInts s.heap v (k x) ∧ x ∈ xs) keys (its.map backV) := by
        rw [← eb]
        exact paired_in kb
      exact paired_unmap q2
    exact paired_zip q p hp
  have fin : ∀ st' : SortSt, failedOf st' = none → Srtd (fun p q : Keyed => HT.lexLt (k (backV p.2)) (k (backV q.2))) (arrOf st').toList → Stb (fun p q : Keyed => HT.lexLt (k (backV p.2)) (k (backV q.2))) (arrOf st').toList (keys.zip its) →
      wpAny (model X.prog X.w) A (PyProof.Rows.ksk_tail a false e1 (.ref kS) st') R E' s := by
    intro st' hf h1 h2
    have g1 : Srtd (fun x y => HT.lexLt (k x) (k y)) ((arrOf st').toList.map fun p => backV p.2) := srtd_map h1
    have em : (keys.zip its).map (fun p => backV p.2) = xs := by
      rw [eb]
      have e2 : (keys.zip its).map (fun p => backV p.2) = ((keys.zip its).map Prod.snd).map backV := by rw [List.map_map]; rfl
      rw [e2, List.map_snd_zip (by omega)]
    have g2 : Stb (fun x y => HT.lexLt (k x) (k y)) ((arrOf st').toList.map fun p => backV p.2) xs := by
      have z := Stb.map (lt := fun x y => HT.lexLt (k x) (k y)) (lex_swo k) (fun p : Keyed => backV p.2) h2
      rw [em] at z
      exact z
    have hlo : (arrOf st').toList.length = xs.length := by rw [← g2.len, List.length_map]
    have eo : ((arrOf st').map (·.2)) = ((arrOf st').toList.map (·.2)).toArray := by
      apply Array.ext'
      rw [Array.toList_map]
    have hrefs : ∀ u ∈ (arrOf st').toList.map (·.2), ∃ t, u = Value.ref t := fun u hu => by
      obtain ⟨p, hp, rfl⟩ := List.mem_map.mp hu
      exact er _ (List.of_mem_zip (a := p.1) (b := p.2) (h2.perm.mem_iff.mp hp)).2
    have vb : Vals ((arrOf st').toList.map fun p => backV p.2) ((arrOf st').toList.map fun p : Keyed => p.2) := by
      have q := vals_back hrefs
      rw [List.map_map] at q
      exact q
    unfold PyProof.Rows.ksk_tail
    try dsimp only
    refine wpAny_bind (listUpdate_at nk rfl ?_ (by rw [List.size_toArray, hkl]; exact hz) (Nat.zero_le _))
    refine wpAny_bind (wpAny_letGo ?_)
    have s1 := Heap.SameBut.update s.heap kS (Obj.mapSeq fun _ => (#[] : Array Value))
    have na1 : (s.heap.update kS (Obj.mapSeq fun _ => (#[] : Array Value))).get? a = some (seqObj "list" #[] e1) := (s1.2 a hka.symm).trans na
    refine wpAny_bind (seqEpoch_at na1 rfl ?_)
    refine wpAny_bind (listUpdate_at na1 rfl ?_ (Nat.zero_le _) ?_)
    · rw [hf]
      simp only [bne_self_eq_false, Bool.false_eq_true, if_false]
      have I1 : Inv X pins σ H { s with heap := s.heap.update kS (Obj.mapSeq fun _ => (#[] : Array Value)) } := I.turnedL (t' := s.toks) (ch := [kS]) (fun b o hb e => (s1.2 b (fun z => hb (by rw [z]; exact List.mem_singleton.mpr rfl))).trans e) (fun b hb => by
        rw [List.mem_singleton.mp hb]
        exact fk)
      have s2 := Heap.SameBut.update (s.heap.update kS (Obj.mapSeq fun _ => (#[] : Array Value))) a (Obj.mapSeq fun _ => (arrOf st').map (·.2))
      obtain ⟨c2, hc2⟩ : ∃ c2, ((s.heap.update kS (Obj.mapSeq fun _ => (#[] : Array Value))).update a (Obj.mapSeq fun _ => (arrOf st').map (·.2))).get? a = some (seqObj "list" ((arrOf st').map (·.2)) c2) := ⟨_, get?_update_seq na1 fun _ => (arrOf st').map (·.2)⟩
      refine wpAny_pure (h _ _ g1 g2 (I1.take (t' := s.toks) (it := a) (o := .lst _) (fun b ob hb e => (s2.2 b hb).trans e) fa ⟨by rw [List.length_map, hlo]; exact hz, (arrOf st').toList.map (fun p : Keyed => p.2), c2, vb, ?_⟩))
      rw [← eo]
      exact hc2
    · show ((arrOf st').map (·.2)).size ≤ _
      rw [Array.size_map, ← Array.length_toList, hlo]
      omega
  unfold PyProof.Rows.ksk_end
  try dsimp only
  simp only [Bool.false_eq_true, if_false]
  have lz : (keys.zip its).length = xs.length := by rw [List.length_zip]; omega
  by_cases h2 : its.toArray.size < 2
  · rw [if_pos h2, if_pos h2]
    refine wpAny_bind (wpAny_pure ?_)
    rw [StateT.run_pure]
    refine wpAny_bind (wpAny_pure ?_)
    try dsimp only
    rw [List.size_toArray] at h2
    refine fin (SortSt.mk' general' (keys.toArray.zip its.toArray) #[] 7 none) rfl ?_ (Stb.of_eq ez)
    show Srtd _ (keys.toArray.zip its.toArray).toList
    rw [ez]
    exact srtd_less2 (by omega)
  · rw [if_neg h2, if_neg h2]
    rw [List.size_toArray] at h2
    refine wpAny_bind (leads_kind (by omega) (fun v hv => ?_) ?_)
    · obtain ⟨i, hi, rfl⟩ := List.mem_iff_getElem.mp hv
      obtain ⟨x, ex, hx⟩ := paired_at kb (List.getElem?_eq_getElem hi)
      exact ⟨_, hx.lead, by rw [hd x (List.mem_of_getElem? ex)]; exact hd1⟩
    have hall : AllL (fun p : Keyed => p ∈ keys.zip its) (keys.toArray.zip its.toArray).toList := fun p hm => by
      rw [ez] at hm
      exact hm
    have hcmp : Cmp X.prog X.w A s (tuples' true) (fun p => p ∈ keys.zip its) (fun p q : Keyed => HT.lexLt (k (backV p.2)) (k (backV q.2))) := fun p q hp hq =>
      ints_lt (hmem p hp).1 (hmem q hq).1 (by rw [hd _ (hmem p hp).2, hd _ (hmem q hq).2])
    refine wpAny_bind (wpAny_mono (wpS_sortO (st0 := SortSt.mk' (tuples' true) (keys.toArray.zip its.toArray) #[] 7 none)
      (Q := fun _ st' => Srtd (fun p q : Keyed => HT.lexLt (k (backV p.2)) (k (backV q.2))) (arrOf st').toList ∧ Stb (fun p q : Keyed => HT.lexLt (k (backV p.2)) (k (backV q.2))) (arrOf st').toList (keys.toArray.zip its.toArray).toList ∧ failedOf st' = none)
      (lex_swo fun p : Keyed => k (backV p.2)) hcmp rfl hall rfl rfl fun st' a1 a2 a3 => ⟨a1, a2, a3⟩) ?_ fun _ _ e => e)
    rintro ⟨⟨⟩, st'⟩ s' ⟨rfl, hp1, hp2, hf⟩
    rw [ez] at hp2
    exact fin st' hf hp1 hp2
end
end FR

/-! sorted(xs, key=f), the rule. -/
namespace FR
open PySem PySem.Spec PyProof.Rows L2 SrtO
section
variable {X : Cx} {CX : CXT} {n : Nat} {f : Addr} {sp : Sp} {E0 : XK} {pins : List (Addr × Obj)} {σ : L2.St} {H : Hp}
theorem key_rest {a kS : Addr} {its : List Value} {xs : List V} {e1 d : Nat} {k : V → List Int} {s : Shared} {R : PySem.Fin → Shared → Prop} {E' : Value → Shared → Prop} (F : FnR X.prog X.w X.K X.mg X.base CX n f sp) (hr : Room n X.A.in1.in1) (hx : ∀ outer H s e s', ¬ CX outer H s E0 e s')
    (I : Inv X pins σ H s) (fa : FpOk X pins H a) (fk : FpOk X pins H kS) (hka : kS ≠ a)
    (nk : s.heap.get? kS = some (seqObj "list" #[] 0)) (na : s.heap.get? a = some (seqObj "list" #[] e1)) (rv : Vals xs its) (href : ∀ x ∈ xs, ∃ t, x = V.ref t) (hd : ∀ x ∈ xs, (k x).length = d) (hd1 : 1 ≤ d) (hz : xs.length ≤ sizeLine)
    (hsp : ∀ x ∈ xs, ∀ H', Same H H' → sp [x] H' (fun z H2 => Same H' H2 ∧ ∃ p, z = .ref p ∧ H2 p = some (.tup ((k x).map V.int))) E0)
    (h : ∀ ys H' s', Srtd (fun x y => HT.lexLt (k x) (k y)) ys → Stb (fun x y => HT.lexLt (k x) (k y)) ys xs → Same H H' → H' a = none → Inv X pins σ (upd H' a (.lst ys)) s' → R (.done (.ret .none)) s') :
    wpAny (model X.prog X.w) X.A.in1.in1 (PyProof.Rows.ksk_rest a (.ref f) false its.toArray e1 (.ref kS)) R E' s := by
  have hl : its.length = xs.length := rv.length.symm
  unfold PyProof.Rows.ksk_rest
  refine wpAny_bind (wpAny_rule ?_)
  first
    | rw [List.forIn_toArray]
    | (rw [← Array.forIn_toList]; simp only [List.toList_toArray])
    | rw [← Array.forIn_toList]
  refine wpAny_bind (PyProof.Rows.ksk_fold (fun i s' => ∃ H' ks e, Inv X pins σ H' s' ∧ Same H H' ∧ FpOk X pins H' a ∧ FpOk X pins H' kS ∧ s'.heap.get? kS = some (seqObj "list" (List.toArray ks) e) ∧ s'.heap.get? a = some (seqObj "list" #[] e1) ∧ KeysIn k H' ks (xs.take i)) its 0 s
    ⟨H, [], 0, I, Same.refl H, fa, fk, nk, na, by rw [List.take_zero]; exact .nil⟩ ?step ?done)
  case step =>
    rintro j u s' hu ⟨H', ks, e, I', sm, fa', fk', nk', na', kp⟩
    simp only [Nat.zero_add] at kp ⊢
    obtain ⟨x, hxj, rx⟩ := paired_at2 rv hu
    have hm : x ∈ xs := List.mem_of_getElem? hxj
    have hj : j < xs.length := (List.getElem?_eq_some_iff.mp hxj).1
    refine wpAny_bind (wpAny_attempt (wpAny_mono (key_call F hr hx I' rx (hsp x hm H' sm)) (fun v s2 hv => ?_) fun _ _ hF => hF.elim))
    obtain ⟨z, H2, un, I2, rz, sm2, p, rfl, hp⟩ := hv
    obtain rfl : v = Value.ref p := rz
    try dsimp only
    obtain ⟨nk2, fk2⟩ := un_kept I' un fk' nk'
    obtain ⟨na2, fa2⟩ := un_kept I' un fa' na'
    have hks : ks.length ≤ xs.length := by
      have q := Paired.length kp
      rw [List.length_take] at q
      omega
    have s1 := Heap.SameBut.update s2.heap kS (Obj.mapSeq (·.push (Value.ref p)))
    obtain ⟨c2, hc2⟩ : ∃ c2, (s2.heap.update kS (Obj.mapSeq (·.push (Value.ref p)))).get? kS = some (seqObj "list" (ks.toArray.push (Value.ref p)) c2) := ⟨_, get?_update_seq nk2 (·.push (Value.ref p))⟩
    have ek : xs.take (j + 1) = xs.take j ++ [x] := by rw [List.take_add_one, hxj]; simp
    have ea : ks.toArray.push (Value.ref p) = (ks ++ [Value.ref p]).toArray := by simp
    refine wpAny_bind (listUpdate_at nk2 rfl ?_ (by rw [List.size_toArray]; omega) (by rw [Array.size_push, List.size_toArray]; omega))
    refine wpAny_pure ⟨rfl, H2, ks ++ [Value.ref p], c2, I2.turnedL (t' := s2.toks) (ch := [kS]) (fun b o hb e => (s1.2 b (fun z => hb (by rw [z]; exact List.mem_singleton.mpr rfl))).trans e) (fun b hb => by
      rw [List.mem_singleton.mp hb]
      exact fk2), sm.trans sm2, fa2, fk2, by rw [← ea]; exact hc2, (s1.2 a hka.symm).trans na2, ?_⟩
    rw [ek]
    exact paired_snoc (kp.keeps sm2) ⟨p, rfl, hp⟩
  case done =>
    rintro s' ⟨H', ks, e, I', sm, fa', fk', nk', na', kp⟩
    rw [List.take_of_length_le (by omega)] at kp
    try dsimp only
    refine wpAny_bind (listItems_at nk' rfl ?_)
    exact key_end (d := d) I' fa' fk' hka nk' na' kp rv href hd hd1 hz fun ys s2 g1 g2 I2 => h ys H' s2 g1 g2 sm fa'.1 I2
theorem cr_sortedKey (F : FnR X.prog X.w X.K X.mg X.base CX n f sp) (hr : Room (n + 2) X.A) (hx : ∀ outer H s e s', ¬ CX outer H s E0 e s') : CallRK X (.builtin "sorted") [Str.ofString "key"] (rSortKey X.K sp E0 f) := by
  intro pins s σ H vs zs us ws Q I r rz h
  obtain ⟨a, xs, k, d, rfl, rfl, hs, hd1, href, hkl, hsp, q⟩ := h
  obtain rfl := Vals.ref1 r
  obtain ⟨w1, rfl, e1⟩ := vals1 rz
  obtain rfl : w1 = Value.ref f := e1
  obtain ⟨its, rv, hl, hz⟩ := I.list hs
  have hlen := rv.length
  have hr2 : Room n X.A.in1.in1 := (show Room (n + 1) X.A.in1 from Room.in1 hr).in1
  refine PySem.W.sorted_of_sort hl.isList (by rw [← hlen]; exact hz) (PyProof.Rows.ksk_s1 _ _) (fun _ => PyProof.Rows.ksk_l1 _ _) fun E' => ?_
  show wpAny _ _ (Builtin.«list.sort» ⟨[.ref (s.heap.objs.size + 1)], [(Str.ofString "key", .ref f)]⟩) _ _ _
  rw [PyProof.Rows.ksk_t1]
  have fa : FpOk X pins H (s.heap.objs.size + 1) := I.fpOk (Nat.le_succ _) (I.hok.fresh (Nat.le_succ _))
  have I0 : Inv X pins σ H { s with heap := PySem.W.copyHeap s.heap its } := I.kept (t' := s.toks) fun b u e => PySem.W.copyHeap_old e
  have ho := PySem.W.copyHeap_at s.heap its
  generalize PySem.W.copyHeap s.heap its = h0 at I0 ho
  generalize s.heap.objs.size + 1 = a0 at fa ho ⊢
  have ha : a0 < h0.objs.size := Heap.lt_size ho
  obtain ⟨e1, ho1⟩ : ∃ e1, (h0.update a0 (Obj.mapSeq fun _ => (#[] : Array Value))).get? a0 = some (seqObj "list" #[] e1) := ⟨_, get?_update_seq ho fun _ => #[]⟩
  have hkS : ((h0.update a0 (Obj.mapSeq fun _ => (#[] : Array Value))).push (seqObj "tuple" its.toArray 0)).objs.size = h0.objs.size + 1 := by rw [PyProof.Rows.size_push', Heap.size_update]
  unfold PyProof.Rows.ksk_tree
  refine wpAny_bind (listItems_at (s := { s with heap := h0 }) ho rfl ?_)
  refine wpAny_bind (listUpdate_at (s := { s with heap := h0 }) ho rfl ?_ (by rw [List.size_toArray, ← hlen]; exact hz) (Nat.zero_le _))
  refine wpAny_bind (seqEpoch_at ho1 rfl ?_)
  refine wpAny_bind (wpAny_newTuple ?_ (by show its.length ≤ _; rw [← hlen]; exact hz))
  refine wpAny_bind (wpAny_newList ?_ (Nat.zero_le _))
  refine wpAny_holding ?_
  have fk : FpOk X pins H ((h0.update a0 (Obj.mapSeq fun _ => (#[] : Array Value))).push (seqObj "tuple" its.toArray 0)).objs.size := by
    rw [hkS]
    exact I0.fpOk (Nat.le_succ _) (I0.hok.fresh (Nat.le_succ _))
  have I1 : Inv X pins σ H { s with heap := ((h0.update a0 (Obj.mapSeq fun _ => (#[] : Array Value))).push (seqObj "tuple" its.toArray 0)).push (seqObj "list" #[] 0) } := Inv.turnedL (s := { s with heap := h0 }) (t' := s.toks) (ch := [a0]) I0 (fun b o hb e => by
    refine Heap.get?_push_of_some _ (Heap.get?_push_of_some _ ?_)
    rw [Heap.get?_update_ne _ _ _ _ (fun z => hb (by rw [z]; exact List.mem_singleton.mpr rfl))]
    exact e) (fun b hb => by
    rw [List.mem_singleton.mp hb]
    exact fa)
  exact key_rest (d := d) F hr2 hx I1 fa fk (by rw [hkS]; exact Nat.ne_of_gt (Nat.lt_succ_of_lt ha)) (Heap.get?_push_size _ rfl) (Heap.get?_push_of_some _ (Heap.get?_push_of_some _ ho1)) rv href hkl hd1 hz hsp fun ys H' s' g1 g2 sm hn I' => ⟨rfl, .ref a0, _, I', rfl, q ys a0 H' g1 g2 sm hn fa.1⟩
end
end FR

/-! sorted(xs), xs tuples that begin with ints that tell them apart. -/
namespace FR
open PySem PySem.Spec PyProof.Rows L2 SrtO
section
variable {prog : Program} {w : World} {A : Around} {E : Value → Shared → Prop} {s : Shared}
theorem leads_sortableO {a : Addr} {vs : List Value} {k : Value → List Int} {d : Nat} (h0 : 0 < vs.length) (h1 : 1 ≤ d) (hp : ∀ v ∈ vs, Lead s.heap v (k v)) (hd : ∀ v ∈ vs, (k v).length = d) (hu : ∀ v ∈ vs, ∀ u ∈ vs, k v = k u → v = u) (ha : ∀ o, s.heap.get? a = some o → o.cls ≠ .type "tuple") :
    SortableO prog w A s a vs fun v u => HT.lexLt (k v) (k u) := by
  intro h' keep
  have hp' : ∀ v ∈ vs, Lead h' v (k v) := fun v hm => (hp v hm).keeps fun b o e c => keep b o (fun z => by subst z; exact ha o e c) e
  exact ⟨tuples' true, fun Q E hq => leads_kind (s := { s with heap := h' }) h0 (fun v hv => ⟨k v, hp' v hv, by rw [hd v hv]; exact h1⟩) hq, lead_cmp (s := { s with heap := h' }) hp' hd hu⟩
end
def rSortedL (K : PySem.W.Frag) : List V → Hp → VK → Prop := fun vs H Q => ∃ (a : Addr) (xs : List V) (k : V → List Int) (d : Nat), vs = [V.ref a] ∧ SqL K H a xs ∧ 1 ≤ d ∧ (∀ x ∈ xs, ∃ t rs, x = V.ref t ∧ H t = some (.tup ((k x).map V.int ++ rs))) ∧ (∀ x ∈ xs, (k x).length = d) ∧
  (∀ x ∈ xs, ∀ y ∈ xs, k x = k y → x = y) ∧ ∀ ys p, Srtd (fun x y => HT.lexLt (k x) (k y)) ys → Stb (fun x y => HT.lexLt (k x) (k y)) ys xs → H p = none → Q (.ref p) (upd H p (.lst ys))
theorem ints_split : ∀ {ns : List Int} {rs : List V} {us : List Value}, Vals (ns.map V.int ++ rs) us → ∃ us1 us2, us = us1 ++ us2 ∧ IntsAre us1 ns
  | [], _, us, _ => ⟨[], us, rfl, .nil⟩
  | n :: ns, rs, _, .cons ⟨t, e⟩ r => by
    obtain ⟨u1, u2, e2, h⟩ := ints_split (ns := ns) r
    exact ⟨.int n t :: u1, u2, by rw [e, e2]; rfl, .cons n t h⟩
section
variable {X : Cx}
theorem cr_sortedL : CallR X (.builtin "sorted") (rSortedL X.K) := by
  intro pins s σ H vs us Q I r h
  obtain ⟨a, xs, k, d, rfl, hs, h1, hx, hd, hu, q⟩ := h
  obtain ⟨its, rv, hl, hz⟩ := I.list hs
  obtain rfl := Vals.ref1 r
  obtain ⟨e1, e2⟩ := refs_back rv fun x m => by
    obtain ⟨t, _, e, _⟩ := hx x m
    exact ⟨t, e⟩
  have hin : ∀ v ∈ its, backV v ∈ xs := fun v hv => by rw [e1]; exact List.mem_map.mpr ⟨_, hv, rfl⟩
  have hp : ∀ v ∈ its, Lead s.heap v (k (backV v)) := fun v hv => by
    obtain ⟨t, rfl⟩ := e2 v hv
    obtain ⟨t', rs, e, ht⟩ := hx _ (hin _ hv)
    cases e
    obtain ⟨_, its2, r2, o, ho, hc, n, hdt⟩ := I.hok _ _ ht
    obtain ⟨u1, u2, rfl, hi⟩ := ints_split r2
    exact ⟨t, o, u1, u2, n, rfl, ho, hc, hdt, hi⟩
  refine sorted_ord (lex_swo fun v => k (backV v)) hl.isList (by rw [← rv.length]; exact hz) (fun h2 h₁ a ha kk => ?_) fun out hs2 hb => ?_
  · refine leads_sortableO (s := { s with heap := h₁ }) (d := d) (k := fun v => k (backV v)) (by omega) h1 (fun v hm => (hp v hm).keeps fun b o e _ => (kk b o e).2) (fun v hm => hd _ (hin v hm)) (fun v hv u hw e => ?_) fun o e => ?_
    · obtain ⟨t, rfl⟩ := e2 v hv
      obtain ⟨t', rfl⟩ := e2 u hw
      have q2 := hu _ (hin _ hv) _ (hin _ hw) e
      cases q2
      rfl
    · have e' : some o = some (seqObj "list" its.toArray 0) := e.symm.trans ha
      cases e'
      intro c
      exact absurd (Value.type.inj c) (by decide)
  · have h3 : ∀ u ∈ out, ∃ a, u = Value.ref a := fun u hu => e2 u (hb.perm.mem_iff.mp hu)
    obtain ⟨n, hn⟩ := sortedAll_at s.heap its out.toArray
    have hb2 : Stb (fun x y => HT.lexLt (k x) (k y)) (out.map backV) xs := by
      rw [e1]
      exact Stb.map (lt := fun x y => HT.lexLt (k x) (k y)) (lex_swo k) backV hb
    refine ⟨.ref (s.heap.objs.size + 1), upd H (s.heap.objs.size + 1) (.lst (out.map backV)), I.laid (t' := s.toks) (fun b o e => sortedAll_old e) (Nat.le_succ _) ⟨?_, out, n, vals_back h3, hn⟩, rfl, q _ _ (srtd_map hs2) hb2 (I.hok.fresh (Nat.le_succ _))⟩
    rw [hb2.len]
    exact hz
end
end FR

/-! Deeds by their places, lists of them, their order. -/
namespace FR
open PySem PySem.Spec PyProof.Rows L2 SrtO
def Act.mark (a : Act) : Int × Int := (a.who, a.num)
def Act.place (a : Act) : List Int := [a.note.sum, a.who, a.num]
theorem What.vs_inj : ∀ {a b : What}, a.vs = b.vs → a = b := by
  intro a b h
  cases a <;> cases b <;> simp [What.vs] at h ⊢ <;> first | exact h | exact absurd h.1 (by decide +kernel)
theorem ints_inj : ∀ {a b : List Int}, a.map V.int = b.map V.int → a = b
  | [], [], _ => rfl
  | [], _ :: _, h => nomatch h
  | _ :: _, [], h => nomatch h
  | x :: a, y :: b, h => by
    rw [List.map_cons, List.map_cons] at h
    injection h with h1 h2
    injection h1 with h1
    rw [h1, ints_inj h2]
theorem ActAt.inj {H : Hp} {p : Addr} {a b : Act} (h : ActAt H p a) (k : ActAt H p b) : a = b := by
  obtain ⟨n, q, h1, h2, h3⟩ := h
  obtain ⟨n', q', k1, k2, k3⟩ := k
  rw [h1] at k1
  injection k1 with k1
  injection k1 with k1
  injection k1 with e1 k1
  injection k1 with e2 k1
  injection k1 with e3 k1
  injection k1 with e4 k1
  injection e1 with e1
  injection e2 with e2
  injection e3 with e3
  injection e4 with e4
  subst e3 e4
  rw [h2] at k2
  injection k2 with k2
  injection k2 with k2
  rw [h3] at k3
  injection k3 with k3
  injection k3 with k3
  obtain ⟨w, nn, nt, wt⟩ := a
  obtain ⟨w', nn', nt', wt'⟩ := b
  simp only at e1 e2 k2 k3
  rw [e1, e2, ints_inj k2, What.vs_inj k3]
instance : Nonempty Act := ⟨⟨0, 0, [], .use "" ""⟩⟩
noncomputable def actOf (H : Hp) (p : Addr) : Act := Classical.epsilon fun a => ActAt H p a
theorem actOf_eq {H : Hp} {p : Addr} {a : Act} (h : ActAt H p a) : actOf H p = a := ActAt.inj (Classical.epsilon_spec (p := fun a => ActAt H p a) ⟨a, h⟩) h
/-- at each of the places stands its deed -/
def Acts (A : Addr → Act) (H : Hp) (ps : List Addr) : Prop := ∀ p ∈ ps, ActAt H p (A p) ∧ (A p).what.Fit
section
variable {A : Addr → Act} {H H' : Hp} {ps qs : List Addr} {S : List Addr}
theorem Acts.keep (h : Acts A H ps) (k : Kp S H H') : Acts A H' ps := fun p m => ⟨(h p m).1.keep k, (h p m).2⟩
theorem Acts.sub (h : Acts A H ps) (k : ∀ q ∈ qs, q ∈ ps) : Acts A H qs := fun q m => h q (k q m)
theorem Acts.perm (h : Acts A H ps) (k : qs.Perm ps) : Acts A H qs := h.sub fun q m => k.mem_iff.mp m
theorem acts_of {as : List Act} (h : ActsAt H ps as) (hf : ∀ a ∈ as, a.what.Fit) : Acts (actOf H) H ps ∧ as = ps.map (actOf H) := by
  induction h with
  | nil => exact ⟨fun p m => by simp at m, rfl⟩
  | cons r t ih =>
    obtain ⟨i1, i2⟩ := ih fun a m => hf a (List.mem_cons_of_mem _ m)
    have e := actOf_eq r
    refine ⟨fun p m => ?_, ?_⟩
    · rcases List.mem_cons.mp m with rfl | m
      · rw [e]
        exact ⟨r, hf _ (List.mem_cons_self ..)⟩
      · exact i1 p m
    · rw [List.map_cons, e, ← i2]
theorem Acts.dp {K : PySem.W.Frag} : ∀ {ps : List Addr}, Acts A H ps → DpAll K H (ps.map V.ref) (ps.map fun p => (A p).data)
  | [], _ => .nil
  | p :: ps, h => .cons (h p (List.mem_cons_self ..)).1.dp (Acts.dp fun q m => h q (List.mem_cons_of_mem _ m))
def decks (A : Addr → Act) (ps : List Addr) : PyData := .list (ps.map fun p => (A p).data)
theorem decks_lay : ∀ {ps : List Addr}, (∀ p ∈ ps, (A p).what.Fit) → PyData.canLayAll0 (ps.map fun p => (A p).data) = true ∧ PyData.depthAll (ps.map fun p => (A p).data) ≤ 3
  | [], _ => ⟨rfl, by simp [PyData.depthAll]⟩
  | p :: ps, h => by
    obtain ⟨i1, i2⟩ := decks_lay (ps := ps) fun q m => h q (List.mem_cons_of_mem _ m)
    have q := Act.shaped (h p (List.mem_cons_self ..))
    have h2 := PySem.W.depthAll_ints (A p).note
    have h4 := (A p).what.deep
    unfold SeqAt.shaped at q
    rw [Bool.and_eq_true] at q
    refine ⟨?_, ?_⟩
    · rw [List.map_cons]
      simp only [PyData.canLayAll0, q.1, i1, Bool.and_self]
    · rw [List.map_cons, PyData.depthAll]
      have e : (A p).data.depth ≤ 3 := by
        unfold Act.data
        simp only [PyData.depth, PyData.depthAll]
        omega
      omega
theorem decks_shaped (h : ∀ p ∈ ps, (A p).what.Fit) : SeqAt.shaped (decks A ps) = true := by
  obtain ⟨h1, h2⟩ := decks_lay h
  unfold SeqAt.shaped decks
  rw [Bool.and_eq_true]
  refine ⟨?_, decide_eq_true ?_⟩
  · simp only [PyData.canLay0, h1]
  · simp only [PyData.depth]
    omega
theorem Acts.fit (h : Acts A H ps) : ∀ p ∈ ps, (A p).what.Fit := fun p m => (h p m).2
theorem decks_eqv (h : ∀ p ∈ ps, (A p).what.Fit) : PyData.eqv (decks A ps) (decks A ps) = true := SeqAt.eqv_refl _ (SeqAt.canLay_of_shaped (decks_shaped h))
theorem Acts.deck {K : PySem.W.Frag} {a : Addr} (h : Acts A H ps) (ha : H a = some (.lst (ps.map V.ref))) : Dp K H (.ref a) (decks A ps) := .lst (sqL ha) h.dp
theorem decks_nil : ∀ {ps : List Addr}, PyData.eqv (decks A ps) (.list []) = ps.isEmpty
  | [] => rfl
  | _ :: _ => rfl
end
def refA : V → Addr
  | .ref a => a
  | _ => 0
theorem refA_map : ∀ ps : List Addr, (ps.map V.ref).map refA = ps
  | [] => rfl
  | p :: ps => by rw [List.map_cons, List.map_cons, refA_map ps]; rfl
theorem perm_refs {ys : List V} {ps : List Addr} (h : ys.Perm (ps.map V.ref)) : ∃ qs : List Addr, ys = qs.map V.ref ∧ qs.Perm ps := by
  refine ⟨ys.map refA, ?_, by have q := h.map refA; rw [refA_map] at q; exact q⟩
  rw [List.map_map]
  have e : ∀ y ∈ ys, (V.ref ∘ refA) y = y := fun y m => by
    obtain ⟨p, _, rfl⟩ := List.mem_map.mp (h.mem_iff.mp m)
    rfl
  have e2 : ys.map (V.ref ∘ refA) = ys.map id := List.map_congr_left e
  rw [e2, List.map_id]
theorem perm_const {α : Type} {l m : List α} (h : l.Perm m) (e : ∀ x ∈ l, ∀ y ∈ l, x = y) : l = m := by
  cases l with
  | nil => exact (h.symm.eq_nil).symm
  | cons x t =>
    have h1 : x :: t = List.replicate (x :: t).length x := List.eq_replicate_iff.mpr ⟨rfl, fun y m => e y m x (List.mem_cons_self ..)⟩
    have h2 : m = List.replicate m.length x := List.eq_replicate_iff.mpr ⟨rfl, fun y my => e y (h.mem_iff.mpr my) x (List.mem_cons_self ..)⟩
    rw [h1, h2, h.length_eq]
/-- two rearrangements in order are one, where the keys tell all apart -/
theorem srt_uniq {α : Type} {k : α → List Int} {l m : List α} (h : l.Perm m) (hl : Srtd (fun x y => HT.lexLt (k x) (k y)) l) (hm : Srtd (fun x y => HT.lexLt (k x) (k y)) m) (inj : ∀ x ∈ l, ∀ y ∈ l, k x = k y → x = y) : l = m := by
  refine stb_uniq (lt := fun x y => HT.lexLt (k x) (k y)) (lex_swo k) hl hm ⟨h, fun x => perm_const (h.filter _) fun y my z mz => ?_⟩
  obtain ⟨y1, y2⟩ := List.mem_filter.mp my
  obtain ⟨z1, z2⟩ := List.mem_filter.mp mz
  have ey := eqv_iff.mp y2
  have ez := eqv_iff.mp z2
  exact inj y y1 z z1 ((lex_tot _ _ ey.2 ey.1).trans (lex_tot _ _ ez.1 ez.2))
def spPlace : Sp := fun vs H Q _ => ∃ (p : Addr) (a : Act), vs = [.ref p] ∧ ActAt H p a ∧ ∀ (q : Addr) (H' : Hp), Same H H' → H q = none → H' q = some (.tup (a.place.map V.int)) → Q (.ref q) H'
abbrev Placed (A : Addr → Act) (qs : List Addr) : Prop := Srtd (fun (x y : Addr) => HT.lexLt (A x).place (A y).place) qs
def spIn (K : PySem.W.Frag) : Sp := fun vs H Q _ => ∃ (l : Addr) (ps : List Addr) (A : Addr → Act), vs = [.ref l] ∧ SqL K H l (ps.map V.ref) ∧ Acts A H ps ∧ ∀ (q : Addr) (qs : List Addr) (H' : Hp), Same H H' → H q = none → H' q = some (.lst (qs.map V.ref)) → qs.Perm ps → Placed A qs → Q (.ref q) H'
end FR

namespace FR
open PySem
/-- the built-in names that nobody has bound -/
structure Blt (mg : Str → Option Value) : Prop where
  len : mg "len" = none
  range : mg "range" = none
  isi : mg "isinstance" = none
  bool : mg "bool" = none
  int : mg "int" = none
  str : mg "str" = none
  list : mg "list" = none
  tuple : mg "tuple" = none
  sum : mg "sum" = none
  sorted : mg "sorted" = none
  set : mg "set" = none
  max : mg "max" = none
  zip : mg "zip" = none
end FR

namespace FR
open PySem PySem.Spec PyProof.Rows L2
abbrev sAlike : Stmt := top 25
section
variable {P : Program} {w : World} {K : PySem.W.Frag} {mg : Str → Option Value} {base : Heap}
theorem scAlike : FnScope ["found", "due", "k"] ["found", "due"] (defScope sAlike) := ⟨rfl, rfl, rfl, by decide +kernel, rfl, by decide +kernel, by decide +kernel⟩
theorem ok_alike {n : Nat} {f : Addr} {fd : FuncData} (F : Fun K "_law_alike" "_law_alike" sAlike f fd) (G : Cal P w K mg base n "_law_alike" ["found", "due"] (spAlike n) f fd) (B : Blt mg) : FnOk P w K mg base CX0 (n + 1) f fd ["found", "due"] (spAlike (n + 1)) := by
  refine F.ok scAlike (fun vs H Q E h => ?_) (fun cdv A outer s H vs Q E hr h => ?_)
  · obtain ⟨x, y, rfl, _⟩ := h
    rfl
  obtain ⟨x, y, rfl, hal, q⟩ := h
  refine ⟨_, pss_cons (ps_if (pt_cmpR op_isN (pv 1) pe_non (nomark _)) (pss_one (ps_ret (pe_cmpR op_isN (pv 0) pe_non (nomark _)))) pss_nil)
    (pss_cons (ps_if (pt_val (pe_callB call_isi (by rfl) B.isi (by decide +kernel) (pa_cons (pv 1) (pa_cons (pe_bltn (v := .ty "bool") (u := .type "bool") (by rfl) B.bool (by decide +kernel) rfl) pa_nil))))
      (pss_one (ps_ret (pe_and (pe_callB call_isi (by rfl) B.isi (by decide +kernel) (pa_cons (pv 0) (pa_cons (pe_bltn (v := .ty "bool") (u := .type "bool") (by rfl) B.bool (by decide +kernel) rfl) pa_nil))) (pe_one (pe_cmpR op_eq (pv 0) (pv 1) (nomark _)))))) pss_nil)
    (pss_cons (ps_if (pt_val (pe_callB call_isi (by rfl) B.isi (by decide +kernel) (pa_cons (pv 1) (pa_cons (pe_bltn (v := .ty "int") (u := .type "int") (by rfl) B.int (by decide +kernel) rfl) pa_nil))))
      (pss_one (ps_ret (pe_and (pe_callB call_isi (by rfl) B.isi (by decide +kernel) (pa_cons (pv 0) (pa_cons (pe_bltn (v := .ty "int") (u := .type "int") (by rfl) B.int (by decide +kernel) rfl) pa_nil)))
        (pe_and (pe_not (pe_callB call_isi (by rfl) B.isi (by decide +kernel) (pa_cons (pv 0) (pa_cons (pe_bltn (v := .ty "bool") (u := .type "bool") (by rfl) B.bool (by decide +kernel) rfl) pa_nil)))) (pe_one (pe_cmpR op_eq (pv 0) (pv 1) (nomark _))))))) pss_nil)
    (pss_cons (ps_if (pt_val (pe_callB call_isi (by rfl) B.isi (by decide +kernel) (pa_cons (pv 1) (pa_cons (pe_bltn (v := .ty "str") (u := .type "str") (by rfl) B.str (by decide +kernel) rfl) pa_nil))))
      (pss_one (ps_ret (pe_and (pe_callB call_isi (by rfl) B.isi (by decide +kernel) (pa_cons (pv 0) (pa_cons (pe_bltn (v := .ty "str") (u := .type "str") (by rfl) B.str (by decide +kernel) rfl) pa_nil))) (pe_one (pe_cmpR op_eq (pv 0) (pv 1) (nomark _)))))) pss_nil)
    (pss_cons (ps_if (PW.pt (pw_or (pt_cmpR op_ne (pe_callB call_isi (by rfl) B.isi (by decide +kernel) (pa_cons (pv 0) (pa_cons (pe_bltn (v := .ty "list") (u := .type "list") (by rfl) B.list (by decide +kernel) rfl) pa_nil)))
          (pe_callB call_isi (by rfl) B.isi (by decide +kernel) (pa_cons (pv 1) (pa_cons (pe_bltn (v := .ty "list") (u := .type "list") (by rfl) B.list (by decide +kernel) rfl) pa_nil))) (nomark _))
        (pw_or1 (pt_cmpR op_ne (pe_callB call_isi (by rfl) B.isi (by decide +kernel) (pa_cons (pv 0) (pa_cons (pe_bltn (v := .ty "tuple") (u := .type "tuple") (by rfl) B.tuple (by decide +kernel) rfl) pa_nil)))
          (pe_callB call_isi (by rfl) B.isi (by decide +kernel) (pa_cons (pv 1) (pa_cons (pe_bltn (v := .ty "tuple") (u := .type "tuple") (by rfl) B.tuple (by decide +kernel) rfl) pa_nil))) (nomark _))))) (pss_one (ps_ret pe_bl)) pss_nil)
    (pss_cons (ps_if (pt_cmpR op_ne (pe_callB call_len_seq (by rfl) B.len PySem.boot_len (pa_cons (pv 0) pa_nil)) (pe_callB call_len_seq (by rfl) B.len PySem.boot_len (pa_cons (pv 1) pa_nil)) (nomark _)) (pss_one (ps_ret pe_bl)) pss_nil)
    (pss_cons (ps_for PassesOwn.never rfl (pi_range1 (by rfl) B.range (pa_cons (pe_callB call_len_seq (by rfl) B.len PySem.boot_len (pa_cons (pv 1) pa_nil)) pa_nil)) (pg_name (i := 2) scAlike.nd rfl (.inl rfl))
      (pss_one (ps_if (pt_not (pt_val (pe_call G.ok hr (by rfl) G.m G.kp G.b .nil pass0 (pa_cons (pe_ix ix_seq (pv 0) (pv 2) (fun _ _ => rfl)) (pa_cons (pe_ix ix_seq (pv 1) (pv 2) (fun _ _ => rfl)) pa_nil))))) (pss_one (ps_ret pe_bl)) pss_nil)))
    (pss_one (ps_ret pe_bl)))))))), ?_⟩
  refine ⟨_, rfl, rfl, _, rfl, ?_⟩
  rcases hal with ⟨rfl, hp⟩ | ⟨a, b, xs, ys, rfl, rfl, hab, hl, hn, hf⟩
  · cases x with
    | non => exact iteT ⟨_, rfl, rfl, q _ (Same.refl _)⟩
    | bl c =>
      refine iteF ⟨_, rfl, _, _, _, _, true, rfl, .ty _, .base (.bl c), kit_ty (by decide +kernel), _, rfl, iteT ⟨_, rfl, _, _, _, _, true, rfl, .ty _, .base (.bl c), kit_ty (by decide +kernel), _, rfl, iteT ⟨_, rfl, _, rfl, rfl, ?_⟩⟩⟩
      rw [decide_eq_true rfl]
      exact q _ (Same.refl _)
    | int c =>
      refine iteF ⟨_, rfl, _, _, _, _, false, rfl, .ty _, .base (.int c), kit_ty (by decide +kernel), _, rfl, iteF ⟨_, rfl, _, _, _, _, true, rfl, .ty _, .base (.int c), kit_ty (by decide +kernel), _, rfl, iteT ⟨_, rfl, _, _, _, _, true, rfl, .ty _, .base (.int c), kit_ty (by decide +kernel), _, rfl, iteT ⟨_, rfl, _, _, _, _, false, rfl, .ty _, .base (.int c), kit_ty (by decide +kernel), _, rfl, _, rfl, iteT ⟨_, rfl, _, rfl, rfl, ?_⟩⟩⟩⟩⟩
      rw [decide_eq_true rfl]
      exact q _ (Same.refl _)
    | str c =>
      refine iteF ⟨_, rfl, _, _, _, _, false, rfl, .ty _, .base (.str c), kit_ty (by decide +kernel), _, rfl, iteF ⟨_, rfl, _, _, _, _, false, rfl, .ty _, .base (.str c), kit_ty (by decide +kernel), _, rfl, iteF ⟨_, rfl, _, _, _, _, true, rfl, .ty _, .base (.str c), kit_ty (by decide +kernel), _, rfl, iteT ⟨_, rfl, _, _, _, _, true, rfl, .ty _, .base (.str c), kit_ty (by decide +kernel), _, rfl, iteT ⟨_, rfl, _, rfl, rfl, ?_⟩⟩⟩⟩⟩
      rw [decide_eq_true rfl]
      exact q _ (Same.refl _)
    | byt c => cases hp
    | flt c => cases hp
    | ref c => cases hp
    | ty c => cases hp
  · rcases hab with ⟨h1, h2⟩ | ⟨h1, h2⟩
    · -- lists
      refine iteF ⟨_, rfl, _, _, _, _, false, rfl, .ty _, .base (.lst h2), kit_ty (by decide +kernel), _, rfl, iteF ⟨_, rfl, _, _, _, _, false, rfl, .ty _, .base (.lst h2), kit_ty (by decide +kernel), _, rfl, iteF ⟨_, rfl, _, _, _, _, false, rfl, .ty _, .base (.lst h2), kit_ty (by decide +kernel), _, rfl, iteF ?_⟩⟩⟩
      refine ⟨_, rfl, _, _, _, _, true, rfl, .ty _, .base (.lst h1), kit_ty (by decide +kernel), _, rfl, _, _, _, _, true, rfl, .ty _, .base (.lst h2), kit_ty (by decide +kernel), rfl, _, rfl, iteNS rfl ?_⟩
      refine ⟨_, rfl, _, _, _, _, false, rfl, .ty _, .base (.lst h1), kit_ty (by decide +kernel), _, rfl, _, _, _, _, false, rfl, .ty _, .base (.lst h2), kit_ty (by decide +kernel), rfl, _, rfl, iteNS rfl ?_⟩
      refine ⟨_, rfl, a, xs, rfl, .inl (sqL h1), _, rfl, b, ys, rfl, .inl (sqL h2), rfl, _, rfl, iteNS (by rw [hl]) ?_⟩
      refine ⟨_, rfl, b, ys, rfl, .inl (sqL h2), _, rfl, by omega, by omega, for_range (lo := 0) (n := ((ys.length : Nat) : Int).toNat) (fun i σ H' => ∃ v, σ = [some (.ref a), some (.ref b), v] ∧ Same H H') ⟨none, rfl, .refl _⟩ ?_ ?_⟩
      · rintro i σ H1 hi ⟨v, rfl, s1⟩
        obtain ⟨u1, e1⟩ := get_some (l := xs) (i := i) (by omega)
        obtain ⟨u2, e2⟩ := get_some (l := ys) (i := i) (by omega)
        refine ⟨_, rfl, _, rfl, .inl ⟨a, xs, _, u1, rfl, rfl, sqL (s1 _ _ h1), at_of (by omega) e1, _, rfl, _, rfl, .inl ⟨b, ys, _, u2, rfl, rfl, sqL (s1 _ _ h2), at_of (by omega) e2, u1, u2, rfl, (hf i u1 u2 e1 e2).same s1, fun H2 s2 => ⟨true, rfl, iteF ⟨_, rfl, s1.trans s2⟩⟩⟩⟩⟩
      · rintro σ H1 ⟨v, rfl, s1⟩
        exact q _ s1
    · -- tuples
      refine iteF ⟨_, rfl, _, _, _, _, false, rfl, .ty _, .base (.tup h2), kit_ty (by decide +kernel), _, rfl, iteF ⟨_, rfl, _, _, _, _, false, rfl, .ty _, .base (.tup h2), kit_ty (by decide +kernel), _, rfl, iteF ⟨_, rfl, _, _, _, _, false, rfl, .ty _, .base (.tup h2), kit_ty (by decide +kernel), _, rfl, iteF ?_⟩⟩⟩
      refine ⟨_, rfl, _, _, _, _, false, rfl, .ty _, .base (.tup h1), kit_ty (by decide +kernel), _, rfl, _, _, _, _, false, rfl, .ty _, .base (.tup h2), kit_ty (by decide +kernel), rfl, _, rfl, iteNS rfl ?_⟩
      refine ⟨_, rfl, _, _, _, _, true, rfl, .ty _, .base (.tup h1), kit_ty (by decide +kernel), _, rfl, _, _, _, _, true, rfl, .ty _, .base (.tup h2), kit_ty (by decide +kernel), rfl, _, rfl, iteNS rfl ?_⟩
      refine ⟨_, rfl, a, xs, rfl, .inr (sqT h1), _, rfl, b, ys, rfl, .inr (sqT h2), rfl, _, rfl, iteNS (by rw [hl]) ?_⟩
      refine ⟨_, rfl, b, ys, rfl, .inr (sqT h2), _, rfl, by omega, by omega, for_range (lo := 0) (n := ((ys.length : Nat) : Int).toNat) (fun i σ H' => ∃ v, σ = [some (.ref a), some (.ref b), v] ∧ Same H H') ⟨none, rfl, .refl _⟩ ?_ ?_⟩
      · rintro i σ H1 hi ⟨v, rfl, s1⟩
        obtain ⟨u1, e1⟩ := get_some (l := xs) (i := i) (by omega)
        obtain ⟨u2, e2⟩ := get_some (l := ys) (i := i) (by omega)
        refine ⟨_, rfl, _, rfl, .inr (.inl ⟨a, xs, _, u1, rfl, rfl, sqT (s1 _ _ h1), at_of (by omega) e1, _, rfl, _, rfl, .inr (.inl ⟨b, ys, _, u2, rfl, rfl, sqT (s1 _ _ h2), at_of (by omega) e2, u1, u2, rfl, (hf i u1 u2 e1 e2).same s1, fun H2 s2 => ⟨true, rfl, iteF ⟨_, rfl, s1.trans s2⟩⟩⟩)⟩)⟩
      · rintro σ H1 ⟨v, rfl, s1⟩
        exact q _ s1
end
end FR

namespace FR
open PySem PySem.Spec PyProof.Rows L2
abbrev sMark : Stmt := top 12
section
variable {P : Program} {w : World} {K : PySem.W.Frag} {mg : Str → Option Value} {base : Heap}
theorem scMark : FnScope ["deed"] ["deed"] (defScope sMark) := ⟨rfl, rfl, rfl, by decide +kernel, rfl, by decide +kernel, by decide +kernel⟩
theorem ok_mark {f : Addr} {fd : FuncData} {k : Nat} (F : Fun K "mark" "mark" sMark f fd) : FnOk P w K mg base CX0 (k + 1) f fd ["deed"] spMark := by
  refine F.ok scMark (fun vs H Q E h => ?_) (fun cdv A outer s H vs Q E hr h => ?_)
  · obtain ⟨p, a, rfl, _⟩ := h
    rfl
  obtain ⟨p, a, rfl, ⟨n, q, h1, h2, h3⟩, out⟩ := h
  refine ⟨_, pss_one (ps_ret (pe_tup (pa_cons (pe_ix ix_tup (pv 0) pe_int (fun _ _ => rfl)) (pa_cons (pe_ix ix_tup (pv 0) pe_int (fun _ _ => rfl)) pa_nil)))), ?_⟩
  exact ⟨_, rfl, p, _, _, _, rfl, rfl, sqT h1, atI_nat (j := 0) rfl, _, rfl, p, _, _, _, rfl, rfl, sqT h1, atI_nat (j := 1) rfl, (by show 2 ≤ sizeLine; decide), fun r nr => out r _ (same_new nr) nr upd_same⟩
end
end FR

/-! What is true of the deeds of a world. -/
namespace FR
open PySem PySem.Spec PyProof.Rows L2
theorem zip_get {f : Int → Int → Int} {r s : List Int} {i : Nat} {x : Int} (h : (List.zipWith f r s)[i]? = some x) : ∃ a b, r[i]? = some a ∧ s[i]? = some b ∧ x = f a b := by
  rw [List.getElem?_zipWith] at h
  cases h1 : r[i]? with
  | none => rw [h1] at h; simp at h
  | some a =>
    cases h2 : s[i]? with
    | none => rw [h1, h2] at h; simp at h
    | some b =>
      rw [h1, h2] at h
      exact ⟨a, b, rfl, rfl, (Option.some.inj h).symm⟩
theorem snoc_nodup {α : Type} {l : List α} {x : α} (h : l.Nodup) (n : x ∉ l) : (l ++ [x]).Nodup := by
  rw [List.nodup_append]
  refine ⟨h, by simp, fun y my z mz => ?_⟩
  rw [List.mem_singleton.mp mz]
  exact fun e => n (e ▸ my)
/-- each deed's author knows of it -/
theorem Wd.own {many : Nat} {acts : List Act} {known : List (List Int)} (h : Wd many acts known) :
    (∀ a ∈ acts, ∃ (i : Nat) (r : List Int) (y : Int), a.who = (i : Int) ∧ known[i]? = some r ∧ r[i]? = some y ∧ a.num ≤ y) ∧ (acts.map Act.mark).Nodup := by
  induction h with
  | nil => exact ⟨fun a m => by simp at m, by simp⟩
  | @step acts known i row row' c wt w hi hr hc ok ih =>
    obtain ⟨ih1, ih2⟩ := ih
    have hil : i < known.length := (List.getElem?_eq_some_iff.mp hi).1
    have hcl : i < row'.length := (List.getElem?_eq_some_iff.mp hc).1
    have ge : ∀ y, row[i]? = some y → y ≤ c := fun y hy => by
      rcases hr with rfl | ⟨j, ro, hj, rfl⟩
      · rw [hc] at hy
        cases hy
        exact Int.le_refl _
      · obtain ⟨a, b, h1, h2, e⟩ := zip_get hc
        rw [h1] at hy
        cases hy
        omega
    have hn : (known.set i (row'.set i (c + 1)))[i]? = some (row'.set i (c + 1)) := by rw [List.getElem?_set_self hil]
    have hn2 : (row'.set i (c + 1))[i]? = some (c + 1) := by rw [List.getElem?_set_self hcl]
    refine ⟨fun a m => ?_, ?_⟩
    · rcases List.mem_append.mp m with m | m
      · obtain ⟨k, r, y, e, hk, hy, le⟩ := ih1 a m
        by_cases ki : k = i
        · subst ki
          rw [hi] at hk
          cases hk
          exact ⟨k, _, c + 1, e, hn, hn2, by have := ge y hy; omega⟩
        · exact ⟨k, r, y, e, by rw [List.getElem?_set_ne (fun z => ki z.symm)]; exact hk, hy, le⟩
      · rw [List.mem_singleton.mp m]
        exact ⟨i, _, c + 1, rfl, hn, hn2, Int.le_refl _⟩
    · rw [List.map_append]
      refine snoc_nodup ih2 fun m => ?_
      obtain ⟨a, ma, ea⟩ := List.mem_map.mp m
      obtain ⟨k, r, y, e, hk, hy, le⟩ := ih1 a ma
      have e1 : a.who = (i : Int) := congrArg Prod.fst ea
      have e2 : a.num = c + 1 := congrArg Prod.snd ea
      have ki : k = i := by omega
      subst ki
      rw [hi] at hk
      cases hk
      have := ge y hy
      omega
end FR

/-! Worlds: what a deed has seen, how many. -/
namespace FR
open PySem PySem.Spec PyProof.Rows L2
/-- r is nowhere above s -/
def Le (r s : List Int) : Prop := ∀ (y : Nat) (a b : Int), r[y]? = some a → s[y]? = some b → a ≤ b
/-- the number of the deeds of each -/
def diag (known : List (List Int)) (i : Nat) : Int := (known.getD i []).getD i 0
theorem diag_of {known : List (List Int)} {i : Nat} {r : List Int} {c : Int} (h : known[i]? = some r) (hc : r[i]? = some c) : diag known i = c := by
  unfold diag
  simp [List.getD, h, hc]
/-- b is among those that a cut at r has -/
def inCut (r : List Int) (b : Act) : Bool := decide (b.num ≤ r.getD b.who.toNat 0)
theorem getD_of {r : List Int} {i : Nat} {c : Int} (h : r[i]? = some c) : r.getD i 0 = c := by simp [List.getD, h]
theorem sum_set : ∀ (r : List Int) (i : Nat) (x c : Int), r[i]? = some x → (r.set i c).sum = r.sum - x + c
  | [], _, _, _, h => by simp at h
  | y :: r, 0, x, c, h => by
    simp at h
    subst h
    rw [List.set_cons_zero, List.sum_cons, List.sum_cons]
    omega
  | y :: r, i + 1, x, c, h => by
    have q := sum_set r i x c (by simpa using h)
    rw [List.set_cons_succ, List.sum_cons, List.sum_cons, q]
    omega
theorem getD_set_ne {r : List Int} {i j : Nat} {c : Int} (h : i ≠ j) : (r.set i c).getD j 0 = r.getD j 0 := by
  unfold List.getD
  rw [List.getElem?_set_ne h]
theorem getD_set_self {r : List Int} {i : Nat} {c : Int} (h : i < r.length) : (r.set i c).getD i 0 = c := by
  unfold List.getD
  rw [List.getElem?_set_self h]
  rfl
structure WorldOk (many : Nat) (acts : List Act) (known : List (List Int)) : Prop where
  /-- nobody knows more of a member than itself -/
  top : ∀ (j : Nat) (r : List Int) (i : Nat) (x : Int), known[j]? = some r → r[i]? = some x → x ≤ diag known i
  pos : ∀ (i : Nat), 0 ≤ diag known i
  act : ∀ a ∈ acts, ∃ i : Nat, a.who = (i : Int) ∧ i < many ∧ 1 ≤ a.num ∧ a.num ≤ diag known i ∧ a.note[i]? = some (a.num - 1)
  le : ∀ a ∈ acts, ∀ (i : Nat) (x : Int), a.note[i]? = some x → x ≤ diag known i
  /-- rows are closed -/
  cl : ∀ (j : Nat) (r : List Int), known[j]? = some r → ∀ b ∈ acts, b.num ≤ r.getD b.who.toNat 0 → Le b.note r
  cla : ∀ a ∈ acts, ∀ b ∈ acts, b.num ≤ a.note.getD b.who.toNat 0 → Le b.note a.note
  cnt : ∀ r : List Int, r.length = many → (∀ (i : Nat) (x : Int), r[i]? = some x → 0 ≤ x ∧ x ≤ diag known i) → ((acts.countP (inCut r) : Nat) : Int) = r.sum
theorem sum_zero : ∀ n : Nat, (List.replicate n (0 : Int)).sum = 0
  | 0 => rfl
  | n + 1 => by rw [List.replicate_succ, List.sum_cons, sum_zero n]; rfl
theorem diag_zero {n i : Nat} : diag (List.replicate n (List.replicate n (0 : Int))) i = 0 := by
  unfold diag List.getD
  by_cases h : i < n
  · rw [List.getElem?_replicate, if_pos h]
    show ((List.replicate n (0 : Int))[i]?).getD 0 = 0
    rw [List.getElem?_replicate, if_pos h]
    rfl
  · rw [List.getElem?_replicate, if_neg h]
    rfl
theorem all_zero : ∀ (r : List Int), (∀ x ∈ r, x = 0) → r.sum = 0
  | [], _ => rfl
  | x :: r, h => by
    rw [List.sum_cons, all_zero r fun y m => h y (List.mem_cons_of_mem _ m), h x (List.mem_cons_self ..)]
    rfl
theorem Wd.world {many : Nat} {acts : List Act} {known : List (List Int)} (h : Wd many acts known) : WorldOk many acts known := by
  induction h with
  | nil =>
    refine ⟨fun j r i x hj hx => ?_, fun i => ?_, fun a m => by simp at m, fun a m => by simp at m, fun j r hj b m => by simp at m, fun a m => by simp at m, fun r hl hb => ?_⟩
    · rw [diag_zero]
      have q := List.mem_of_getElem? hj
      have q2 := List.mem_of_getElem? hx
      rw [(List.mem_replicate.mp q).2] at q2
      rw [(List.mem_replicate.mp q2).2]
      exact Int.le_refl 0
    · rw [diag_zero]
      exact Int.le_refl 0
    · rw [List.countP_nil]
      symm
      refine all_zero r fun x mx => ?_
      obtain ⟨i, hi⟩ := List.getElem?_of_mem mx
      have q := hb i x hi
      rw [diag_zero] at q
      omega
  | @step acts known i row row' c wt w hi hr hc ok ih =>
    have lens := w.lens
    have nn := w.nonneg
    have hil : i < known.length := (List.getElem?_eq_some_iff.mp hi).1
    have him : i < many := by rw [← lens.1]; exact hil
    have hrl : row'.length = many := by
      rcases hr with rfl | ⟨j, ro, hj, rfl⟩
      · exact lens.2 _ (List.mem_of_getElem? hi)
      · rw [List.length_zipWith, lens.2 _ (List.mem_of_getElem? hi), lens.2 _ (List.mem_of_getElem? hj), Nat.min_self]
    have hn0 : ∀ x ∈ row', 0 ≤ x := by
      rcases hr with rfl | ⟨j, ro, hj, rfl⟩
      · exact nn _ (List.mem_of_getElem? hi)
      · exact zipWith_nonneg (nn _ (List.mem_of_getElem? hi)) (nn _ (List.mem_of_getElem? hj))
    -- the row that it does its deed by is below the diagonal, at i just there, and closed
    have htop : ∀ (k : Nat) (x : Int), row'[k]? = some x → x ≤ diag known k := fun k x hx => by
      rcases hr with rfl | ⟨j, ro, hj, rfl⟩
      · exact ih.top i _ k x hi hx
      · obtain ⟨a, b, h1, h2, e⟩ := zip_get hx
        have q1 := ih.top i _ k a hi h1
        have q2 := ih.top j _ k b hj h2
        omega
    obtain ⟨c0, hc0⟩ := get_some (show i < row.length by rw [lens.2 _ (List.mem_of_getElem? hi)]; exact him)
    have ed : diag known i = c0 := diag_of hi hc0
    have ec : c = diag known i := by
      have q1 := htop i c hc
      have q2 : c0 ≤ c := by
        rcases hr with rfl | ⟨j, ro, hj, rfl⟩
        · rw [hc0] at hc
          cases hc
          exact Int.le_refl _
        · obtain ⟨a, b, h1, h2, e⟩ := zip_get hc
          rw [hc0] at h1
          cases h1
          omega
      omega
    have hcl : ∀ b ∈ acts, b.num ≤ row'.getD b.who.toNat 0 → Le b.note row' := fun b mb hb => by
      rcases hr with rfl | ⟨j, ro, hj, rfl⟩
      · exact ih.cl i _ hi b mb hb
      · obtain ⟨k, ek, hk, _, _, _⟩ := ih.act b mb
        have e2 : b.who.toNat = k := by omega
        rw [e2] at hb
        obtain ⟨x, hx⟩ := get_some (show k < (List.zipWith max row ro).length by rw [hrl]; exact hk)
        rw [getD_of hx] at hb
        obtain ⟨x1, x2, h1, h2, e⟩ := zip_get hx
        intro y z z' hz hz'
        obtain ⟨y1, y2, g1, g2, e3⟩ := zip_get hz'
        rcases Int.le_total x2 x1 with le | le
        · have q := ih.cl i _ hi b mb (by rw [e2, getD_of h1]; omega) y z y1 hz g1
          omega
        · have q := ih.cl j _ hj b mb (by rw [e2, getD_of h2]; omega) y z y2 hz g2
          omega
    have dself : diag (known.set i (row'.set i (c + 1))) i = c + 1 := diag_of (List.getElem?_set_self hil) (List.getElem?_set_self (by rw [hrl]; exact him))
    have dne : ∀ k, k ≠ i → diag (known.set i (row'.set i (c + 1))) k = diag known k := fun k h => by
      unfold diag List.getD
      rw [List.getElem?_set_ne (fun z => h z.symm)]
    have dge : ∀ k, diag known k ≤ diag (known.set i (row'.set i (c + 1))) k := fun k => by
      by_cases h : k = i
      · rw [h, dself]
        omega
      · rw [dne k h]
        exact Int.le_refl _
    have c0' : 0 ≤ c := by rw [ec]; exact ih.pos i
    -- a deed of before is in no cut that the new one's number needs
    have hnum : ∀ b ∈ acts, b.who = (i : Int) → b.num ≤ c := fun b mb e => by
      obtain ⟨k, ek, hk, _, h2, _⟩ := ih.act b mb
      have : k = i := by omega
      subst this
      omega
    have newLe : ∀ r : List Int, (∀ (k : Nat) (x : Int), r[k]? = some x → x ≤ diag known k) → ¬ (c + 1 ≤ r.getD i 0) := fun r hr2 le => by
      cases e : r[i]? with
      | none => simp [List.getD, e] at le; omega
      | some x =>
        rw [getD_of e] at le
        have := hr2 i x e
        omega
    refine ⟨fun j r k x hj hx => ?_, fun k => Int.le_trans (ih.pos k) (dge k), fun a ma => ?_, fun a ma k x hx => ?_, fun j r hj b mb hb => ?_, fun a ma b mb hb => ?_, fun r hl hb => ?_⟩
    · by_cases ji : j = i
      · subst ji
        rw [List.getElem?_set_self hil] at hj
        cases hj
        by_cases ki : k = j
        · subst ki
          rw [List.getElem?_set_self (by rw [hrl]; exact him)] at hx
          cases hx
          rw [dself]
          exact Int.le_refl _
        · rw [List.getElem?_set_ne (fun z => ki z.symm)] at hx
          exact Int.le_trans (htop k x hx) (dge k)
      · rw [List.getElem?_set_ne (fun z => ji z.symm)] at hj
        exact Int.le_trans (ih.top j r k x hj hx) (dge k)
    · rcases List.mem_append.mp ma with ma | ma
      · obtain ⟨k, ek, hk, h1, h2, h3⟩ := ih.act a ma
        exact ⟨k, ek, hk, h1, Int.le_trans h2 (dge k), h3⟩
      · rw [List.mem_singleton.mp ma]
        exact ⟨i, rfl, him, by show 1 ≤ c + 1; omega, by rw [dself]; exact Int.le_refl _, by show row'[i]? = some (c + 1 - 1); rw [hc]; congr 1; omega⟩
    · rcases List.mem_append.mp ma with ma | ma
      · exact Int.le_trans (ih.le a ma k x hx) (dge k)
      · rw [List.mem_singleton.mp ma] at hx
        exact Int.le_trans (htop k x hx) (dge k)
    · rcases List.mem_append.mp mb with m2 | mb
      · by_cases ji : j = i
        · subst ji
          rw [List.getElem?_set_self hil] at hj
          cases hj
          obtain ⟨k, ek, hk, h1, h2, h3⟩ := ih.act b m2
          have e2 : b.who.toNat = k := by omega
          have hb' : b.num ≤ row'.getD b.who.toNat 0 := by
            rw [e2] at hb ⊢
            by_cases kj : k = j
            · subst kj
              rw [getD_of hc]
              exact hnum b m2 ek
            · rw [getD_set_ne (fun z => kj z.symm)] at hb
              exact hb
          have q := hcl b m2 hb'
          intro y z z' hz hz'
          by_cases yj : y = j
          · subst yj
            rw [List.getElem?_set_self (by rw [hrl]; exact him)] at hz'
            cases hz'
            have := q y z c hz hc
            omega
          · rw [List.getElem?_set_ne (fun z => yj z.symm)] at hz'
            exact q y z z' hz hz'
        · rw [List.getElem?_set_ne (fun z => ji z.symm)] at hj
          exact ih.cl j r hj b m2 hb
      · rw [List.mem_singleton.mp mb] at hb ⊢
        by_cases ji : j = i
        · subst ji
          rw [List.getElem?_set_self hil] at hj
          cases hj
          intro y z z' hz hz'
          by_cases yj : y = j
          · subst yj
            rw [List.getElem?_set_self (by rw [hrl]; exact him)] at hz'
            cases hz'
            have hz2 : row'[y]? = some z := hz
            rw [hc] at hz2
            cases hz2
            omega
          · rw [List.getElem?_set_ne (fun z => yj z.symm)] at hz'
            have hz2 : row'[y]? = some z := hz
            rw [hz2] at hz'
            cases hz'
            exact Int.le_refl _
        · rw [List.getElem?_set_ne (fun z => ji z.symm)] at hj
          exact absurd (show c + 1 ≤ r.getD i 0 from hb) (newLe r fun k x hx => ih.top j r k x hj hx)
    · rcases List.mem_append.mp ma with ma | ma
      · rcases List.mem_append.mp mb with mb | mb
        · exact ih.cla a ma b mb hb
        · rw [List.mem_singleton.mp mb] at hb
          exact absurd (show c + 1 ≤ a.note.getD i 0 from hb) (newLe a.note fun k x hx => ih.le a ma k x hx)
      · rw [List.mem_singleton.mp ma] at hb ⊢
        rcases List.mem_append.mp mb with mb | mb
        · exact hcl b mb hb
        · rw [List.mem_singleton.mp mb] at hb
          exact absurd (show c + 1 ≤ row'.getD i 0 from hb) (newLe row' htop)
    · rw [List.countP_append]
      obtain ⟨x, hx⟩ := get_some (show i < r.length by rw [hl]; exact him)
      have bx := hb i x hx
      rw [dself] at bx
      have one : ([(⟨i, c + 1, row', wt⟩ : Act)].countP (inCut r) : Nat) = if c + 1 ≤ x then 1 else 0 := by
        rw [List.countP_cons, List.countP_nil]
        have e : inCut r (⟨i, c + 1, row', wt⟩ : Act) = decide (c + 1 ≤ x) := by
          unfold inCut
          show decide (c + 1 ≤ r.getD ((i : Int).toNat) 0) = _
          rw [Int.toNat_natCast, getD_of hx]
        rw [e]
        by_cases h : c + 1 ≤ x
        · simp [h]
        · simp [h]
      rw [one]
      by_cases h : c + 1 ≤ x
      · rw [if_pos h]
        have q := ih.cnt (r.set i c) (by rw [List.length_set]; exact hl) fun k y hy => by
          by_cases ki : k = i
          · subst ki
            rw [List.getElem?_set_self (by rw [hl]; exact him)] at hy
            cases hy
            omega
          · rw [List.getElem?_set_ne (fun z => ki z.symm)] at hy
            have q := hb k y hy
            rw [dne k ki] at q
            exact q
        have e : acts.countP (inCut r) = acts.countP (inCut (r.set i c)) := by
          refine List.countP_congr fun b mb => ?_
          obtain ⟨k, ek, hk, h1, h2, h3⟩ := ih.act b mb
          have e2 : b.who.toNat = k := by omega
          unfold inCut
          rw [e2]
          by_cases ki : k = i
          · subst ki
            rw [getD_set_self (by rw [hl]; exact him), getD_of hx]
            have := hnum b mb ek
            simp only [decide_eq_true_eq]
            omega
          · rw [getD_set_ne (fun z => ki z.symm)]
        rw [e]
        rw [sum_set r i x c hx] at q
        push_cast
        omega
      · rw [if_neg h]
        have q := ih.cnt r hl fun k y hy => by
          by_cases ki : k = i
          · subst ki
            rw [hx] at hy
            cases hy
            omega
          · have q := hb k y hy
            rw [dne k ki] at q
            exact q
        push_cast
        omega
end FR

/-! Seeing, among the deeds of a world that lie in lists. -/
namespace FR
open PySem PySem.Spec PyProof.Rows L2 SrtO
theorem le_sum : ∀ {r s : List Int}, r.length = s.length → Le r s → r.sum ≤ s.sum
  | [], [], _, _ => Int.le_refl _
  | [], _ :: _, h, _ => nomatch h
  | _ :: _, [], h, _ => nomatch h
  | x :: r, y :: s, h, le => by
    have q := le_sum (r := r) (s := s) (Nat.succ.inj h) fun i a b h1 h2 => le (i + 1) a b (by simpa using h1) (by simpa using h2)
    have q2 := le 0 x y rfl rfl
    rw [List.sum_cons, List.sum_cons]
    omega
theorem lt_sum : ∀ {r s : List Int} (k : Nat) (x y : Int), r.length = s.length → Le r s → r[k]? = some x → s[k]? = some y → x < y → r.sum < s.sum
  | [], _, k, x, y, _, _, h, _, _ => by simp at h
  | _ :: _, [], _, _, _, h, _, _, _, _ => nomatch h
  | a :: r, b :: s, 0, x, y, h, le, h1, h2, lt => by
    simp at h1 h2
    subst h1 h2
    have q := le_sum (r := r) (s := s) (Nat.succ.inj h) fun i a b h1 h2 => le (i + 1) a b (by simpa using h1) (by simpa using h2)
    rw [List.sum_cons, List.sum_cons]
    omega
  | a :: r, b :: s, k + 1, x, y, h, le, h1, h2, lt => by
    have q := lt_sum (r := r) (s := s) k x y (Nat.succ.inj h) (fun i a b h1 h2 => le (i + 1) a b (by simpa using h1) (by simpa using h2)) (by simpa using h1) (by simpa using h2) lt
    have q2 := le 0 a b rfl rfl
    rw [List.sum_cons, List.sum_cons]
    omega
/-- one has seen the other one -/
def Act.sees (a b : Act) : Bool := a.seen b.who b.num
/-- deeds of a world: what is used of them -/
structure Wide (many : Nat) (as : List Act) : Prop where
  len : ∀ a ∈ as, a.note.length = many
  pos : ∀ a ∈ as, ∀ x ∈ a.note, 0 ≤ x
  act : ∀ a ∈ as, ∃ i : Nat, a.who = (i : Int) ∧ i < many ∧ 1 ≤ a.num ∧ a.note[i]? = some (a.num - 1)
  cl : ∀ a ∈ as, ∀ b ∈ as, b.num ≤ a.note.getD b.who.toNat 0 → Le b.note a.note
theorem Wide.perm {many : Nat} {as bs : List Act} (h : Wide many as) (k : ∀ b ∈ bs, b ∈ as) : Wide many bs :=
  ⟨fun a m => h.len a (k a m), fun a m => h.pos a (k a m), fun a m => h.act a (k a m), fun a m b mb => h.cl a (k a m) b (k b mb)⟩
theorem Wd.wide {many : Nat} {acts : List Act} {known : List (List Int)} (h : Wd many acts known) : Wide many acts :=
  ⟨fun a m => (h.plain a m).1, fun a m => (h.plain a m).2.1, fun a m => by
    obtain ⟨i, e, hi, h1, _, h3⟩ := h.world.act a m
    exact ⟨i, e, hi, h1, h3⟩, h.world.cla⟩
section
variable {many : Nat} {as : List Act} {a b c : Act}
theorem Wide.sees_iff (W : Wide many as) (ha : a ∈ as) (hb : b ∈ as) : a.sees b = inCut a.note b := by
  obtain ⟨i, e, hi, h1, _⟩ := W.act b hb
  unfold Act.sees Act.seen inCut
  rw [W.len a ha, decide_eq_true (show (0 : Int) ≤ b.who by omega), decide_eq_true (show b.who < (many : Int) by omega), decide_eq_true h1]
  rfl
theorem Wide.sees_le (W : Wide many as) (ha : a ∈ as) (hb : b ∈ as) (h : a.sees b = true) : Le b.note a.note := by
  rw [W.sees_iff ha hb] at h
  exact W.cl a ha b hb (of_decide_eq_true h)
theorem Wide.sees_size (W : Wide many as) (ha : a ∈ as) (hb : b ∈ as) (h : a.sees b = true) : b.note.sum < a.note.sum := by
  have le := W.sees_le ha hb h
  rw [W.sees_iff ha hb] at h
  have h := of_decide_eq_true h
  obtain ⟨i, e, hi, h1, h2⟩ := W.act b hb
  have e2 : b.who.toNat = i := by omega
  rw [e2] at h
  obtain ⟨y, hy⟩ := get_some (show i < a.note.length by rw [W.len a ha]; exact hi)
  rw [getD_of hy] at h
  exact lt_sum i _ y (by rw [W.len a ha, W.len b hb]) le h2 hy (by omega)
theorem Wide.sees_trans (W : Wide many as) (ha : a ∈ as) (hb : b ∈ as) (hc : c ∈ as) (h : a.sees b = true) (k : b.sees c = true) : a.sees c = true := by
  have le := W.sees_le ha hb h
  rw [W.sees_iff ha hc]
  rw [W.sees_iff hb hc] at k
  have k := of_decide_eq_true k
  obtain ⟨i, e, hi, h1, h2⟩ := W.act c hc
  have e2 : c.who.toNat = i := by omega
  unfold inCut
  rw [e2] at k ⊢
  obtain ⟨y, hy⟩ := get_some (show i < b.note.length by rw [W.len b hb]; exact hi)
  obtain ⟨z, hz⟩ := get_some (show i < a.note.length by rw [W.len a ha]; exact hi)
  rw [getD_of hy] at k
  rw [getD_of hz]
  have := le i y z hy hz
  exact decide_eq_true (by omega)
/-- of one author the one that isn't greater is the same or seen -/
theorem Wide.own_sees (W : Wide many as) (ha : a ∈ as) (hb : b ∈ as) (e : b.who = a.who) (ne : b.mark ≠ a.mark) (lt : HT.lexLt b.place a.place = true) : a.sees b = true := by
  obtain ⟨i, ea, hi, h1, h2⟩ := W.act a ha
  obtain ⟨j, eb, hj, k1, k2⟩ := W.act b hb
  have eij : j = i := by omega
  subst eij
  have e2 : b.who.toNat = j := by omega
  rw [W.sees_iff ha hb]
  unfold inCut
  rw [e2, getD_of h2]
  refine decide_eq_true ?_
  refine Int.not_lt.mp fun gt => ?_
  have nn : b.num ≠ a.num := fun z => ne (Prod.ext e z)
  have s : b.sees a = true := by
    rw [W.sees_iff hb ha]
    unfold inCut
    have e3 : a.who.toNat = j := by omega
    rw [e3, getD_of k2]
    exact decide_eq_true (by omega)
  have q := W.sees_size hb ha s
  unfold Act.place at lt
  rw [HT.lexLt_cons, if_neg (by omega), decide_eq_true_eq] at lt
  omega
end
end FR

/-! Lists of deeds of unlike marks, in order. -/
namespace FR
open PySem PySem.Spec PyProof.Rows L2 SrtO
/-- a list of deeds of unlike marks -/
def Dk (n : Nat) (H : Hp) (x : Addr) : Prop := ∃ (ps : List Addr) (A : Addr → Act), H x = some (.lst (ps.map V.ref)) ∧ Acts A H ps ∧ (ps.map fun p => (A p).mark).Nodup ∧ ps.length ≤ n
theorem Dk.keep {n : Nat} {S : List Addr} {H H' : Hp} {x : Addr} (h : Dk n H x) (k : Kp S H H') (m : x ∉ S) : Dk n H' x := by
  obtain ⟨ps, A, h1, h2, h3⟩ := h
  exact ⟨ps, A, k.lst h1 m, h2.keep k, h3⟩
section
variable {A : Addr → Act} {ps qs : List Addr}
theorem marks_inj (nd : (ps.map fun p => (A p).mark).Nodup) : ∀ p ∈ ps, ∀ q ∈ ps, (A p).mark = (A q).mark → p = q := by
  induction ps with
  | nil => intro p m; simp at m
  | cons x xs ih =>
    rw [List.map_cons, List.nodup_cons] at nd
    intro p mp q mq e
    rcases List.mem_cons.mp mp with e1 | m1
    · rcases List.mem_cons.mp mq with e2 | m2
      · rw [e1, e2]
      · exact absurd (List.mem_map.mpr ⟨q, m2, by rw [← e, e1]⟩) nd.1
    · rcases List.mem_cons.mp mq with e2 | m2
      · exact absurd (List.mem_map.mpr ⟨p, m1, by rw [e, e2]⟩) nd.1
      · exact ih nd.2 p m1 q m2 e
theorem place_mark {a b : Act} (h : a.place = b.place) : a.mark = b.mark := by
  unfold Act.place at h
  injection h with h1 h
  injection h with h2 h
  injection h with h3 h
  unfold Act.mark
  rw [h2, h3]
/-- the same deeds in order twice -/
theorem placed_uniq (nd : (ps.map fun p => (A p).mark).Nodup) (h : qs.Perm ps) (hp : Placed A ps) (hq : Placed A qs) : qs = ps :=
  (srt_uniq (k := fun p => (A p).place) h.symm hp hq fun x mx y my e => marks_inj nd x mx y my (place_mark e)).symm
theorem placed_lt (nd : (ps.map fun p => (A p).mark).Nodup) (hp : Placed A ps) {i j : Nat} {p q : Addr} (hi : ps[i]? = some p) (hj : ps[j]? = some q) (h : i < j) : HT.lexLt (A p).place (A q).place = true := by
  cases e : HT.lexLt (A p).place (A q).place with
  | true => rfl
  | false =>
    exfalso
    obtain ⟨li, ei⟩ := List.getElem?_eq_some_iff.mp hi
    obtain ⟨lj, ej⟩ := List.getElem?_eq_some_iff.mp hj
    have q1 := (List.pairwise_iff_getElem.mp hp) i j li lj h
    rw [ei, ej] at q1
    have q2 := place_mark (lex_tot _ _ e q1)
    have q3 := (List.pairwise_iff_getElem.mp nd) i j (by simpa using li) (by simpa using lj) h
    simp only [List.getElem_map] at q3
    rw [ei, ej] at q3
    exact q3 q2
def markK (A : Addr → Act) (x : V) : List Int := [(A (refA x)).who, (A (refA x)).num]
theorem markK_inj (nd : (ps.map fun p => (A p).mark).Nodup) : ∀ x ∈ ps.map V.ref, ∀ y ∈ ps.map V.ref, markK A x = markK A y → x = y := by
  intro x mx y my e
  obtain ⟨p, mp, rfl⟩ := List.mem_map.mp mx
  obtain ⟨q, mq, rfl⟩ := List.mem_map.mp my
  unfold markK at e
  injection e with e1 e
  injection e with e2 e
  rw [marks_inj nd p mp q mq (by unfold Act.mark; exact Prod.ext e1 e2)]
theorem markK_at {H : Hp} (ha : Acts A H ps) : ∀ x ∈ ps.map V.ref, ∃ t rs, x = V.ref t ∧ H t = some (.tup ((markK A x).map V.int ++ rs)) := by
  intro x mx
  obtain ⟨p, mp, rfl⟩ := List.mem_map.mp mx
  obtain ⟨⟨n, q, h1, h2, h3⟩, _⟩ := ha p mp
  exact ⟨p, [.ref n, .ref q], rfl, h1⟩
end
end FR

namespace FR
open PySem PySem.Spec PyProof.Rows L2 SrtO
abbrev sLook : Stmt := top 11
abbrev sHasMark : Stmt := top 13
abbrev sHasNote : Stmt := top 14
abbrev sDown : Stmt := top 15
theorem Room.units65 {k : Nat} {A : Around} (r : L2.Room k A) : A.units + 65 < cLine := by
  have := r.un
  omega
def Act.markOk (a : Act) (many : Int) : Bool := decide (0 ≤ a.who) && decide (a.who < many) && decide (1 ≤ a.num)
def Act.noteOk (a : Act) (many : Int) : Bool := decide ((a.note.length : Int) = many) && (a.note.all (fun x => decide (0 ≤ x)) && decide (a.note.getD a.who.toNat 0 = a.num - 1))
def What.downOk (w : What) (who many : Int) : Bool := match w with
  | .give _ _ m => decide (who < m) && decide (m < many)
  | .take _ _ m => decide (who < m) && decide (m < many)
  | .use _ _ => true
def spHasMark : Sp := fun vs H Q _ => ∃ (p : Addr) (many : Int) (a : Act), vs = [.int many, .ref p] ∧ ActAt H p a ∧ ∀ H', Same H H' → Q (.bl (a.markOk many)) H'
def spHasNote : Sp := fun vs H Q _ => ∃ (p : Addr) (many : Nat) (a : Act), vs = [.int many, .ref p] ∧ ActAt H p a ∧ 1 ≤ many ∧ 0 ≤ a.who ∧ a.who < many ∧ Q (.bl (a.noteOk many)) H
def spDown : Sp := fun vs H Q _ => ∃ (p : Addr) (many : Int) (a : Act), vs = [.int many, .ref p] ∧ ActAt H p a ∧ Q (.bl (a.what.downOk a.who many)) H
def Act.good (a : Act) (many : Nat) : Prop := a.markOk many = true ∧ a.noteOk many = true ∧ a.what.downOk a.who many = true
def spLook : Sp := fun vs H Q _ => ∃ (p : Addr) (many : Nat) (a : Act), vs = [.int many, .ref p] ∧ ActAt H p a ∧ 1 ≤ many ∧ a.good many ∧ ∀ H', Same H H' → Q .non H'
/-- a statement that isn't come to -/
theorem ps_no {X : Cx} {st : Stmt} : PS X st (fun _ _ _ => False) := ⟨fun pins s σ H D I h => h.elim⟩
section
variable {P : Program} {w : World} {K : PySem.W.Frag} {mg : Str → Option Value} {base : Heap}
theorem scHasMark : FnScope ["members", "deed", "author", "number"] ["members", "deed"] (defScope sHasMark) := ⟨rfl, rfl, rfl, by decide +kernel, rfl, by decide +kernel, by decide +kernel⟩
theorem ok_hasMark {f fM : Addr} {fd fdM : FuncData} {k : Nat} (F : Fun K "_has_mark" "_has_mark" sHasMark f fd) (M : Cal P w K mg base k "mark" ["deed"] spMark fM fdM) : FnOk P w K mg base CX0 (k + 1) f fd ["members", "deed"] spHasMark := by
  refine F.ok scHasMark (fun vs H Q E h => ?_) (fun cdv A outer s H vs Q E hr h => ?_)
  · obtain ⟨p, many, a, rfl, _⟩ := h
    rfl
  obtain ⟨p, many, a, rfl, ha, out⟩ := h
  refine ⟨_, pss_cons (ps_asg (pe_call M.ok hr (by rfl) M.m M.kp M.b .nil pass0 (pa_cons (pv 1) pa_nil)) (pg_tup rfl (pgs_cons (pg_name (i := 2) scHasMark.nd rfl (.inl rfl)) (pgs_cons (pg_name (i := 3) scHasMark.nd rfl (.inl rfl)) pgs_nil))))
    (pss_one (ps_ret (pe_and (pe_chain op_le op_lt pe_int (pv 2) (pv 0)) (pe_one (pe_cmpR op_ge (pv 3) pe_int (nomark _)))))), ?_⟩
  refine ⟨_, rfl, p, a, rfl, ha, fun q H1 s1 nq eq => ?_⟩
  refine ⟨q, _, rfl, sqT eq, rfl, _, _, rfl, _, _, rfl, rfl, ?_⟩
  have o1 := out H1 s1
  unfold Act.markOk at o1
  refine ⟨_, rfl, _, _, rfl, rfl, _, rfl, ite2 (fun c => ?_) (fun c => ?_)⟩
  · have c : decide (0 ≤ a.who) = true := c
    rw [c, Bool.true_and] at o1
    refine ⟨_, rfl, _, _, rfl, rfl, _, rfl, ite2 (fun c2 => ?_) (fun c2 => ?_)⟩
    · have c2 : decide (a.who < many) = true := c2
      rw [c2, Bool.true_and] at o1
      exact ⟨_, rfl, _, _, rfl, rfl, o1⟩
    · have c2 : decide (a.who < many) = false := Bool.eq_false_iff.mpr c2
      rw [c2, Bool.false_and] at o1
      exact o1
  · have c : decide (0 ≤ a.who) = false := Bool.eq_false_iff.mpr c
    rw [c, Bool.false_and, Bool.false_and] at o1
    exact ⟨false, rfl, iteF o1⟩
theorem scHasNote : FnScope ["members", "deed", "author", "number", "seen", "_"] ["members", "deed"] (defScope sHasNote) := ⟨rfl, rfl, rfl, by decide +kernel, rfl, by decide +kernel, by decide +kernel⟩
theorem min_all {ns : List Int} {m : Int} (hm : m ∈ ns) (le : ∀ y ∈ ns, m ≤ y) : ns.all (fun x => decide (0 ≤ x)) = decide (0 ≤ m) := by
  by_cases h : 0 ≤ m
  · rw [decide_eq_true h, List.all_eq_true]
    exact fun x mx => decide_eq_true (Int.le_trans h (le x mx))
  · rw [decide_eq_false h, List.all_eq_false]
    exact ⟨m, hm, by simpa using h⟩
theorem ok_hasNote {f : Addr} {fd : FuncData} {k : Nat} (F : Fun K "_has_note" "_has_note" sHasNote f fd) (B : Blt mg) (mn : mg "min" = none) : FnOk P w K mg base CX0 (k + 1) f fd ["members", "deed"] spHasNote := by
  refine F.ok scHasNote (fun vs H Q E h => ?_) (fun cdv A outer s H vs Q E hr h => ?_)
  · obtain ⟨p, many, a, rfl, _⟩ := h
    rfl
  obtain ⟨p, many, a, rfl, ⟨n, q, h1, h2, h3⟩, b1, w0, w1, out⟩ := h
  refine ⟨_, pss_cons (ps_asg (pv 1) (pg_tup rfl (pgs_cons (pg_name (i := 2) scHasNote.nd rfl (.inl rfl)) (pgs_cons (pg_name (i := 3) scHasNote.nd rfl (.inl rfl)) (pgs_cons (pg_name (i := 4) scHasNote.nd rfl (.inl rfl)) (pgs_cons (pg_name (i := 5) scHasNote.nd rfl (.inl rfl)) pgs_nil))))))
    (pss_one (ps_ret (pe_and (pe_cmpR op_eq (pe_callB call_len_seq (by rfl) B.len PySem.boot_len (pa_cons (pv 4) pa_nil)) (pv 0) (nomark _)) (pe_and (pe_cmpR op_ge (pe_callB (cr_minT rfl) (by rfl) mn (by decide +kernel) (pa_cons (pv 4) pa_nil)) pe_int (nomark _)) (pe_one (pe_cmpR op_eq (pe_ix ix_tup (pv 4) (pv 2) (fun _ _ => rfl)) (pe_op op_sub (pv 3) pe_int) (nomark _))))))), ?_⟩
  unfold Act.noteOk at out
  refine ⟨_, rfl, p, _, rfl, sqT h1, rfl, _, _, rfl, _, _, rfl, _, _, rfl, _, _, rfl, rfl, _, rfl, n, _, rfl, .inr (sqT h2), _, rfl, rfl, _, rfl, ?_⟩
  rw [List.length_map]
  by_cases c : a.note.length = many
  · have e1 : decide (V.int ((a.note.length : Nat) : Int) = V.int (many : Int)) = true := decide_eq_true (by rw [c])
    rw [e1]
    rw [decide_eq_true (show (a.note.length : Int) = many by omega), Bool.true_and] at out
    refine iteT ⟨_, rfl, n, a.note, rfl, sqT h2, by omega, fun m hm le => ⟨_, _, rfl, rfl, ?_⟩⟩
    rw [min_all hm le] at out
    refine ⟨_, rfl, ite2 (fun c2 => ?_) (fun c2 => ?_)⟩
    · have c2 : decide (0 ≤ m) = true := c2
      rw [c2, Bool.true_and] at out
      obtain ⟨z, hz⟩ := get_some (l := a.note) (i := a.who.toNat) (by omega)
      refine ⟨_, rfl, _, rfl, n, _, _, _, rfl, rfl, sqT h2, at_of (j := a.who.toNat) (by omega) (ints_at hz), _, rfl, _, _, rfl, rfl, rfl, ?_⟩
      rw [getD_of hz] at out
      have e2 : decide (V.int z = V.int (a.num - 1)) = decide (z = a.num - 1) := by
        by_cases e : z = a.num - 1
        · rw [decide_eq_true e, e]
          exact decide_eq_true rfl
        · rw [decide_eq_false e]
          exact decide_eq_false fun h => e (V.int.inj h)
      rw [e2]
      exact out
    · have c2 : decide (0 ≤ m) = false := Bool.eq_false_iff.mpr c2
      rw [c2, Bool.false_and] at out
      exact out
  · have e1 : decide (V.int ((a.note.length : Nat) : Int) = V.int (many : Int)) = false := decide_eq_false fun h => c (by have := V.int.inj h; omega)
    rw [e1]
    rw [decide_eq_false (show ¬ (a.note.length : Int) = many by omega), Bool.false_and] at out
    exact iteF out
theorem scDown : FnScope ["members", "deed", "what"] ["members", "deed"] (defScope sDown) := ⟨rfl, rfl, rfl, by decide +kernel, rfl, by decide +kernel, by decide +kernel⟩
theorem ok_down {f : Addr} {fd : FuncData} {k : Nat} (F : Fun K "_goes_down" "_goes_down" sDown f fd) : FnOk P w K mg base CX0 (k + 1) f fd ["members", "deed"] spDown := by
  refine F.ok scDown (fun vs H Q E h => ?_) (fun cdv A outer s H vs Q E hr h => ?_)
  · obtain ⟨p, many, a, rfl, _⟩ := h
    rfl
  obtain ⟨p, many, a, rfl, ⟨n, q, h1, h2, h3⟩, out⟩ := h
  refine ⟨_, pss_cons (ps_set (i := 2) scDown.nd rfl (.inl rfl) (pe_ix ix_tup (pv 1) pe_int (fun _ _ => rfl)))
    (pss_one (ps_ret (pe_or (pe_cmpR op_eq (pe_ix ix_tup (pv 2) pe_int (fun _ _ => rfl)) pe_str (nomark _)) (pe_one (pe_chain op_lt op_lt (pe_ix ix_tup (pv 1) pe_int (fun _ _ => rfl)) (pe_ix ix_tup (pv 2) pe_int (fun _ _ => rfl)) (pv 0)))))), ?_⟩
  refine ⟨_, rfl, p, _, _, _, rfl, rfl, sqT h1, atI_nat (j := 3) rfl, ?_⟩
  obtain ⟨aw, an, at', wt⟩ := a
  cases wt with
  | use x y =>
    refine ⟨_, rfl, q, _, _, _, rfl, rfl, sqT h3, atI_nat (j := 0) rfl, rfl, _, rfl, ?_⟩
    rw [show decide (V.str "use" = V.str "use") = true from decide_eq_true rfl]
    exact iteT out
  | give x y m =>
    refine ⟨_, rfl, q, _, _, _, rfl, rfl, sqT h3, atI_nat (j := 0) rfl, rfl, _, rfl, ?_⟩
    rw [show decide (V.str "give" = V.str "use") = false by decide +kernel]
    refine iteF ⟨_, rfl, p, _, _, _, rfl, rfl, sqT h1, atI_nat (j := 0) rfl, _, rfl, q, _, _, _, rfl, rfl, sqT h3, atI_nat (j := 3) rfl, _, _, rfl, rfl, _, rfl, ite2 (fun c => ?_) (fun c => ?_)⟩
    · have c : decide (aw < m) = true := c
      have e : (What.give x y m).downOk aw many = decide (m < many) := by
        unfold What.downOk
        simp only [c, Bool.true_and]
      rw [e] at out
      exact ⟨_, rfl, _, _, rfl, rfl, out⟩
    · have c : decide (aw < m) = false := Bool.eq_false_iff.mpr c
      have e : (What.give x y m).downOk aw many = false := by
        unfold What.downOk
        simp only [c, Bool.false_and]
      rw [e] at out
      exact out
  | take x y m =>
    refine ⟨_, rfl, q, _, _, _, rfl, rfl, sqT h3, atI_nat (j := 0) rfl, rfl, _, rfl, ?_⟩
    rw [show decide (V.str "take" = V.str "use") = false by decide +kernel]
    refine iteF ⟨_, rfl, p, _, _, _, rfl, rfl, sqT h1, atI_nat (j := 0) rfl, _, rfl, q, _, _, _, rfl, rfl, sqT h3, atI_nat (j := 3) rfl, _, _, rfl, rfl, _, rfl, ite2 (fun c => ?_) (fun c => ?_)⟩
    · have c : decide (aw < m) = true := c
      have e : (What.take x y m).downOk aw many = decide (m < many) := by
        unfold What.downOk
        simp only [c, Bool.true_and]
      rw [e] at out
      exact ⟨_, rfl, _, _, rfl, rfl, out⟩
    · have c : decide (aw < m) = false := Bool.eq_false_iff.mpr c
      have e : (What.take x y m).downOk aw many = false := by
        unfold What.downOk
        simp only [c, Bool.false_and]
      rw [e] at out
      exact out
theorem scLook : FnScope ["members", "deed"] ["members", "deed"] (defScope sLook) := ⟨rfl, rfl, rfl, by decide +kernel, rfl, by decide +kernel, by decide +kernel⟩
theorem ok_look {f fM fN fG : Addr} {fd fdM fdN fdG : FuncData} {k : Nat} (F : Fun K "look" "look" sLook f fd) (M : Cal P w K mg base k "_has_mark" ["members", "deed"] spHasMark fM fdM) (N : Cal P w K mg base k "_has_note" ["members", "deed"] spHasNote fN fdN) (G : Cal P w K mg base k "_goes_down" ["members", "deed"] spDown fG fdG) : FnOk P w K mg base CX0 (k + 1) f fd ["members", "deed"] spLook := by
  refine F.ok scLook (fun vs H Q E h => ?_) (fun cdv A outer s H vs Q E hr h => ?_)
  · obtain ⟨p, many, a, rfl, _⟩ := h
    rfl
  obtain ⟨p, many, a, rfl, ha, b1, ⟨g1, g2, g3⟩, out⟩ := h
  refine ⟨_, pss_one (ps_if (pt_not (PW.pt (pw_and (pt_val (pe_call M.ok hr (by rfl) M.m M.kp M.b .nil pass0 (pa_cons (pv 0) (pa_cons (pv 1) pa_nil)))) (pw_and (pt_val (pe_call N.ok hr (by rfl) N.m N.kp N.b .nil pass0 (pa_cons (pv 0) (pa_cons (pv 1) pa_nil))))
    (pw_and1 (pt_val (pe_call G.ok hr (by rfl) G.m G.kp G.b .nil pass0 (pa_cons (pv 0) (pa_cons (pv 1) pa_nil))))))))) (pss_one ps_no) pss_nil), ?_⟩
  have g1' := g1
  unfold Act.markOk at g1'
  simp only [Bool.and_eq_true, decide_eq_true_eq] at g1'
  refine ⟨_, rfl, _, rfl, p, many, a, rfl, ha, fun H1 s1 => ⟨_, rfl, ?_⟩⟩
  rw [g1]
  have ha1 := ha.keep (S := []) (.of s1)
  refine iteT ⟨_, rfl, _, rfl, p, many, a, rfl, ha1, b1, g1'.1.1, g1'.1.2, _, rfl, ?_⟩
  rw [g2]
  refine iteT ⟨_, rfl, _, rfl, p, many, a, rfl, ha1, _, rfl, ?_⟩
  rw [g3]
  exact iteF (out H1 s1)
end
end FR

/-! A def of a class that says super(): it has captured the class's cell. -/
namespace FR
open PySem PySem.Spec PyProof.Rows L2 NdefX
section
variable {CX : CXT} {P : Program} {w : World} {K : PySem.W.Frag} {mg : Str → Option Value} {base : Heap} {k : Nat} {f cda cc D : Addr} {name qual : Str} {params : Arguments} {body : List Stmt} {scope : Scope} {kV doc pm ct oc : Value} {an od cld : Option Addr} {osl csl : Array (Option Value)} {cl : Value} {N ps : List Str} {sp : Sp}
def cloF (name qual : Str) (params : Arguments) (body : List Stmt) (scope : Scope) (cc cda : Addr) : NF := ⟨name, qual, params, body, scope, [("__class__", cc)], cda⟩
theorem clo_cells {s : Shared} {H : Hp} (KX : K.In s.heap) (hb : ∀ b o, K.lookup b = some o → H b = none) (hc : K.lookup cc = some ⟨cl, cld, .cell (some (.ref D)), csl⟩) : CellsAt [("__class__", cc)] ["__class__"] [some (.ref D)] s.heap H := by
  have hcell : s.heap.IsCell cc (some (.ref D)) := ⟨_, KX _ _ hc, rfl⟩
  have one : ∀ {y : Str} {c : Addr}, ([(("__class__" : Str), cc)] : List (Str × Addr)).lookup y = some c → y = "__class__" ∧ c = cc := fun {y c} h => by
    rw [List.lookup_cons] at h
    by_cases e : y = "__class__"
    · subst e
      rw [beq_self_eq_true] at h
      exact ⟨rfl, (Option.some.inj h).symm⟩
    · rw [show (y == ("__class__" : Str)) = false from beq_eq_false_iff_ne.mpr e] at h
      cases h
  refine ⟨rfl, fun y c h => ?_, fun x y c h1 h2 => ?_, fun i y h => ?_⟩
  · obtain ⟨_, rfl⟩ := one h
    exact ⟨hb _ _ hc, _, hcell⟩
  · rw [(one h1).1, (one h2).1]
  · cases i with
    | zero =>
      simp at h
      subst h
      refine ⟨cc, rfl, fun v hv => ?_⟩
      simp at hv
      subst hv
      exact ⟨_, rfl, hcell⟩
    | succ i => simp at h
theorem fn_clo (lk : K.lookup f = some ⟨oc, od, .func (PySem.W.fnX name qual params body scope [("__class__", cc)] .none kV doc pm an (.ref cda) ct), osl⟩) (hcd : PySem.W.codeIn K (.ref cda) qual = true) (hc : K.lookup cc = some ⟨cl, cld, .cell (some (.ref D)), csl⟩)
    (S : NScope N ps ["__class__"] scope) (len : ∀ vs H Q E, sp vs H Q E → vs.length = ps.length)
    (hbody : ∀ (A : Around) (outer : List Env) (s : Shared) (H : Hp) (vs : List V) (Q : VK) (E : XK), Room k (A.deeper (envF (cloF name qual params body scope cc cda) f s.heap.objs.size)) → sp vs H Q E →
      ∃ t, PSs (ncx CX P w K mg base N (cloF name qual params body scope cc cda) f A outer s H E) body t ∧ t { nx := fun _ H' => Q .non H', rt := Q } (startF N vs [some (.ref D)]) H) :
    FnOk P w K mg base CX (k + 1) f (PySem.W.fnX name qual params body scope [("__class__", cc)] .none kV doc pm an (.ref cda) ct) ps sp := by
  refine ⟨len, fun A outer s H args us vs Q E hr e0 hb r hsp => ?_⟩
  have hl := len _ _ _ _ hsp
  have KX : K.In s.heap := e0.mod.kin.keeps fun b o e => (e0.bs b o e).1
  have kH : ∀ b o, K.lookup b = some o → H b = none := fun b o e => (e0.bs b o (e0.mod.kin _ _ e)).2
  have lim : s.heap.NoLimit := e0.mod.nolimit.keeps fun b o e => (e0.bs b o e).1
  refine codeAny_call_function hr.depth (KX _ _ lk) rfl S.co S.gen rfl (PySem.W.codeRec_of KX hcd) (hb _ _ _ _ ?_)
  refine wpAny_newFunctionEnv S.nocell (fun ⟨n, _⟩ hy => S.par n (List.of_mem_zip hy).1) (fun h₁ hns hsb => ⟨lim.fresh _ hsb, ?_⟩) S.kind
  show codeAny _ _ (.func body (envF (cloF name qual params body scope cc cda) f s.heap.objs.size)) _ _
  refine codeAny_func ?_
  have kp : ∀ b o, s.heap.get? b = some o → h₁.get? b = some o := fun b o e => hsb.extBut b o (Nat.ne_of_lt (Heap.lt_size e)) (Heap.get?_push_of_some _ e)
  obtain ⟨t, ht, hq⟩ := hbody A outer s H vs Q E (hr.deeper _) hsp
  have I : Inv (ncx CX P w K mg base N (cloF name qual params body scope cc cda) f A outer s H E) [] (startF N vs [some (.ref D)]) H { s with heap := h₁, toks := s.toks + (ps.zip us).length } :=
    inv_startN S hr.hd e0 hl r (clo_cells KX kH hc) hns kp
  refine wpAny_mono (ht.run [] _ (startF N vs [some (.ref D)]) H _ I hq) (fun fl s' hs => ?_) fun e s' hs => hs
  have fin : ∀ {σ' : L2.St} {H' : Hp} {v : V} {u : Value}, Inv (ncx CX P w K mg base N (cloF name qual params body scope cc cda) f A outer s H E) [] σ' H' s' → L2.RelV v u → Q v H' → CE outer P w H s Q u s' := fun J rv q => ⟨_, _, J.os, J.bare, J.base, J.hok, rv, q⟩
  cases fl with
  | ret u =>
    obtain ⟨v, σ', H', J, rv, q⟩ := hs
    exact fin J rv q
  | next =>
    obtain ⟨σ', H', J, q⟩ := hs
    exact fin (v := V.non) (u := Value.none) J rfl q
  | brk =>
    obtain ⟨_, _, _, q⟩ := hs
    exact False.elim q
  | cont =>
    obtain ⟨_, _, _, q⟩ := hs
    exact False.elim q
end
end FR

/-! super().__init__(..) of an own error over ValueError. -/
namespace FR
open PySem PySem.Spec PyProof.Rows L2 NdefX
/-- what the written part says of the class at C, its def __init__ at f -/
structure SupC (prog : Program) (K : PySem.W.Frag) (mg : Str → Option Value) (C f cda : Addr) (me : Str) : Prop where
  ow : OexC K C
  al : PySem.W.ks_superIn K C C "__init__" = some (some (.builtin "ValueError.__init__"))
  sub : PySem.W.mroIn K C (.ref C) = some true
  ve : PySem.W.subIn K (.ref C) (.type "ValueError") = some true
  op : PySem.W.nsIn K cStatics "thirdparty.any" = some none
  un : mg "super" = none
  fn : ∃ (oc : Value) (od : Option Addr) (fd : FuncData) (osl : Array (Option Value)) (ar : Arg), K.lookup f = some ⟨oc, od, .func fd, osl⟩ ∧ (fd.params.posonlyargs ++ fd.params.args).head? = some ar ∧ ar.arg = me
  co : ∃ (cc : Value) (cd : Option Addr) (vs : Array Value) (cs : Array (Option Value)) (file : Str) (tf : Tok), K.lookup cda = some ⟨cc, cd, .fields vs, cs⟩ ∧ vs[2]? = some (.str file tf) ∧ ((prog.main.file : Str) == file) = true
  top : (prog.main.scope.names.lookup ("super" : Str)).isSome = false
section
variable {X : Cx} {pins : List (Addr × Obj)} {σ : L2.St} {H : Hp} {s : Shared} {C f cda a : Addr} {me : Str} {body : List Stmt}
theorem exo_inst (I : Inv X pins σ H s) (e : H a = some (exo a C none)) : ∃ o : Obj, PySem.W.InstAt s.heap a o C none ∧ (∀ c, o.data ≠ .cls c) := by
  obtain ⟨t1, ho⟩ := exo_at I.hok e
  exact ⟨_, ⟨ho, rfl, rfl, trivial⟩, fun c z => by cases z⟩
/-- super() -/
theorem run_super {p0 p1 : Pos} {whole : Sem Value} {E : Value → Shared → Prop} {i j : Nat} {Q : Value → Shared → Prop} (T : SupC X.prog X.K X.mg C f cda me) (I : Inv X pins σ H s) (hf : X.env.func = some f) (hco : X.env.code = .ref cda)
    (hks : X.env.kindOf "super" = some .globalImplicit) (hkc : X.env.kindOf "__class__" = some .free) (hme : X.env.kindOf me = some .local) (hcd : (me == ("__classdict__" : Str)) = false) (hi : X.N[i]? = some me) (hj : X.N[j]? = some ("__class__" : Str)) (vi : σ[i]? = some (some (.ref a))) (vj : σ[j]? = some (some (.ref C))) (e : H a = some (exo a C none))
    (h : ∀ so h', (∀ y o, s.heap.get? y = some o → h'.get? y = some o) → s.heap.objs.size ≤ so → h'.get? so = some (PySem.W.ks_superObj C a C) → Q (.ref so) { s with heap := h' }) :
    PySem.wpAt (model X.prog X.w) X.A (.func body X.env) (attributeBase (.Call (.Name "super" p0) [] [] p1) "__init__" X.env whole) Q E s := by
  obtain ⟨oc, od, fd, osl, ar, lf, hp, ea⟩ := T.fn
  obtain ⟨cc, cd, vs, cs, file, tf, lc, hvs, hfile⟩ := T.co
  have KX := I.kIn
  obtain ⟨o, IA, hnc⟩ := exo_inst I e
  obtain ⟨mb, b1, b2⟩ := I.mod.blt
  obtain ⟨m, hn, hl⟩ := I.loc
  refine PySem.ks_wpAt_super_base (env := X.env) hks hkc (by decide) hf (KX _ _ lf) rfl hp hco (KX _ _ lc) rfl hvs hfile T.top ?_
  refine PySem.W.ks_loadName_global I.ok.kind hks (Calls.loadGlobal_builtin (by rw [I.ok.glob]; exact I.mod.glob.keeps I.bk) T.un (by rw [I.ok.blt]; exact b1.keeps I.bk) ((b2 "super" (by decide)).trans (by rfl)) ⟨rfl, ?_⟩)
  have look : ∀ {k : Nat} {x : Str} {v : V} {Q' : Value → Shared → Prop} {E' : Value → Shared → Prop}, X.N[k]? = some x → σ[k]? = some (some v) → Vis X.env.scope x → (x == ("__classdict__" : Str)) = false → (∀ u, RelV v u → Q' u s) → wpAny (model X.prog X.w) X.A (loadName X.env x) Q' E' s := by
    intro k x v Q' E' hN hv vis hcd hq
    obtain ⟨u, r, l⟩ := hl k x v hN hv vis
    rcases l with ⟨hk, hm⟩ | ⟨hk, c, hc, hcell⟩
    · exact wpAny_loadName_local I.ok.kind hk hn hm (hq u r)
    · rcases hk with hk | hk
      · exact wpAny_loadName_cell I.ok.kind hk hc hcell (hq u r)
      · exact wpAny_loadName_free I.ok.kind hk hc hcell (hq u r) hcd
  refine look hj vj (.inr (.inr hkc)) (by decide) fun u r => ?_
  obtain rfl : u = Value.ref C := r
  subst ea
  refine look hi vi (.inl hme) hcd fun u r => ?_
  obtain rfl : u = Value.ref a := r
  obtain ⟨oD, cd, hD1, hD2⟩ : ∃ (oD : Obj) (cd : ClassData), s.heap.get? C = some oD ∧ oD.data = .cls cd := by
    have q := T.al
    unfold PySem.W.ks_superIn PySem.W.clsIn at q
    split at q
    · rename_i c d cd' sl ho
      exact ⟨_, _, KX _ _ ho, rfl⟩
    · cases q
  refine PySem.ks_wpAny_isType_cls hD1 hD2 ⟨rfl, ?_⟩
  obtain ⟨hp, g, d, t, os⟩ := s
  exact PySem.ks_wpAny_call_super hD1 hD2 IA.at_ IA.cls hnc (PySem.W.looks_mroIn KX T.sub) fun h' e2 k => h _ h' k (Nat.le_refl _) e2
abbrev mwO (a : Addr) : Obj := PySem.W.kxs_mw "ValueError.__init__" a
/-- the bound __init__ is called -/
theorem call_mw {u : Addr} {us : List Value} {Q : Value → Shared → Prop} {E : Value → Shared → Prop} (T : OexC X.K C) (I : Inv X ((u, mwO a) :: pins) σ H s) (e : H a = some (exo a C none)) (hl : us.length ≤ sizeLine) (h : ∀ s', Inv X ((u, mwO a) :: pins) σ H s' → Q .none s') :
    wpAny (model X.prog X.w) X.A (call (.ref u) us) Q E s := by
  obtain ⟨nm, q, N, bs, bm, sn, sub, ab, col, dd, k0, k1, k2, k3, k5, hC, hbm⟩ := T.cls
  obtain ⟨t1, ho⟩ := exo_at I.hok e
  have hu := (I.pin (u, mwO a) (List.mem_append_right _ List.mem_cons_self)).1
  obtain ⟨hp, g, d, t, os⟩ := s
  refine wpAny_call (codeAny_of_tree ?_)
  show wpAny _ X.A.in1 (callAny (.ref u) ⟨us, []⟩) _ _ _
  simp only [callAny]
  refine wpAny_bind (wpAny_load hu ?_)
  simp only [PySem.W.kxs_mw]
  rw [if_pos (by decide)]
  refine wpAny_bind (PySem.ESX.check_bound F.excBase_ValueError (I.kIn _ _ hC) ho rfl ?_)
  refine wpAny_bind (wpAny_pure (wpAny_pure ?_))
  refine ⟨Code.quiet_builtin _ (by decide +kernel), codeAny_builtin F.excBase_ValueError.initEntry ?_⟩
  rw [Around.under_plainId F.excBase_ValueError.init.plain _]
  wp_walk
  have hp1 : (hp.push { cls := .type "tuple", data := .seq us.toArray }).get? a = some ({ cls := .ref C, data := .fields #[.ref t1, .none, .none, .none, .bool false, .none] } : Obj) := Heap.get?_push_of_some _ ho
  have k : ∀ b o, b ≠ a → hp.get? b = some o → ((hp.push { cls := .type "tuple", data := .seq us.toArray }).update a (Obj.mapFields fun x => x.setIfInBounds 0 (Value.ref hp.objs.size))).get? b = some o := fun b o hb q => by
    rw [Heap.get?_update_ne _ _ _ _ hb]
    exact Heap.get?_push_of_some _ q
  have hx : ((hp.push { cls := .type "tuple", data := .seq us.toArray }).update a (Obj.mapFields fun x => x.setIfInBounds 0 (Value.ref hp.objs.size))).get? a = some ({ cls := .ref C, dict := none, data := .fields #[.ref hp.objs.size, .none, .none, .none, .bool false, .none] } : Obj) := by
    rw [Heap.get?_update_self _ hp1 rfl]
    rfl
  have J := I.write (t' := t) (x := a) (e := a) (o := exo a C none) (by rw [e]; exact True.intro) (.inl rfl) k ⟨_, hx⟩ (exo_ok hx)
  have eu : upd H a (exo a C none) = H := by
    funext b
    by_cases hb : b = a
    · rw [hb, upd_same, e]
    · rw [upd_ne hb]
  rw [eu] at J
  exact h _ J
/-- super().__init__(e, ..) -/
theorem run_supinit {p0 p1 p2 pos : Pos} {e1 : Expr} {es : List Expr} {ta : TA} {i j : Nat} {Q : VK} {pl : Sem Bool} (T : SupC X.prog X.K X.mg C f cda me) (I : Inv X pins σ H s) (hf : X.env.func = some f) (hco : X.env.code = .ref cda)
    (hks : X.env.kindOf "super" = some .globalImplicit) (hkc : X.env.kindOf "__class__" = some .free) (hme : X.env.kindOf me = some .local) (hcd : (me == ("__classdict__" : Str)) = false) (hi : X.N[i]? = some me) (hj : X.N[j]? = some ("__class__" : Str)) (vi : σ[i]? = some (some (.ref a))) (vj : σ[j]? = some (some (.ref C))) (e : H a = some (exo a C none))
    (ha : PA X (e1 :: es) ta) (h : ta σ H fun vs H1 => vs.length ≤ 1000 ∧ H1 a = some (exo a C none) ∧ Q .non H1)
    (he : eval (.Call (.Attribute (.Call (.Name "super" p0) [] [] p1) "__init__" p2) (e1 :: es) [] pos) X.env = (do
      let ov ← attributeBase (.Call (.Name "super" p0) [] [] p1) "__init__" X.env (eval (.Call (.Name "super" p0) [] [] p1) X.env)
      standAt p2.atName
      let (f, first) ← holding [ov] (getMethod ov "__init__" pl)
      callWith pos f first (backTo pos (starEach (e1 :: es) X.env)) []) := by rfl)
    (hs : starEach (e1 :: es) X.env = (false, eval e1 X.env) :: starEach es X.env := by rfl) (hpl : (backTo pos (starEach es X.env)).any (·.1) = false := by rfl) :
    PySem.wpAt (model X.prog X.w) X.A (.func body X.env) (eval (.Call (.Attribute (.Call (.Name "super" p0) [] [] p1) "__init__" p2) (e1 :: es) [] pos) X.env) (EP X pins σ Q) X.xe s := by
  refine PySem.ks_wpAt_MethodCall (pl := pl) (run_super T I hf hco hks hkc hme hcd hi hj vi vj e fun so h' k hso hobj => ?_) he
  have I1 : Inv X pins σ H { s with heap := h' } := I.kept (t' := s.toks) k
  have KX := I1.kIn
  obtain ⟨o, IA, _⟩ := exo_inst I1 e
  cases hc : PySem.W.clsIn X.K C with
  | none =>
    have q := T.al
    unfold PySem.W.ks_superIn at q
    rw [hc] at q
    cases q
  | some cd =>
    have al := T.al
    unfold PySem.W.ks_superIn at al
    rw [hc] at al
    obtain ⟨hp, g, d, t, os⟩ := s
    refine PySem.W.kxs_getMethod PySem.W.kxs_ValueError hobj (PySem.W.looks_opaque KX T.op) (l₀ := cd.mro) ?_ rfl KX al (IA.type.andThen (PySem.W.looks_subIn KX T.ve)) (PySem.W.ks_ne KX IA hc) (by decide) ?_
    · exact fun A' Q' E' s' k' q => wpAny_bind ((PySem.W.looks_clsIn KX hc) A' _ E' s' k' (wpAny_pure q))
    · have fr : H h'.objs.size = none := I1.hok.fresh (Nat.le_refl _)
      have I2 : Inv X pins σ H ⟨h'.push (mwO a), g, d, t + 1, os⟩ := Inv.kept (s := ⟨h', g, d, t, os⟩) (t' := t + 1) I1 fun b o q => Heap.get?_push_of_some _ q
      have hu : (h'.push (mwO a)).get? h'.objs.size = some (mwO a) := Heap.get?_push_size _ rfl
      have I3 : Inv X ((h'.objs.size, mwO a) :: pins) σ H ⟨h'.push (mwO a), g, d, t + 1, os⟩ := I2.pins_of fun p hp => by
        rcases List.mem_cons.mp hp with rfl | hp
        · exact ⟨hu, fr, Nat.ne_of_gt (Nat.lt_of_lt_of_le I1.lt (Nat.le_refl _)), I1.nofs (Nat.le_refl _), fun v z => nomatch z⟩
        · exact I2.pin p (List.mem_append_right _ hp)
      refine PySem.W.kxs_callWith (i := "ValueError.__init__") (x := a) (by rw [hs]; show (false || (backTo pos (starEach es X.env)).any (·.1)) = false; rw [hpl]; rfl) ?_
      rw [hs]
      refine Calls.evalArgs_plain ?_
      have r0 := ha.run pos _ _ σ H _ I3 h
      rw [hs] at r0
      refine thn r0 fun us s1 ⟨vs, H1, J, rv, hl, ea, q⟩ => ⟨(J.pin _ (List.mem_append_right _ List.mem_cons_self)).1, ?_⟩
      have hz : us.length ≤ sizeLine := by
        rw [← rv.length, sizeLine_eq]
        omega
      exact call_mw T.ow J ea hz fun s' J' => ⟨.non, H1, J'.pins_of fun p hp => J'.pin p (List.mem_append_right _ (List.mem_cons_of_mem _ hp)), rfl, q⟩
end
end FR

/-! An own error's __init__ that begins with super().__init__(..), as a promise. -/
namespace FR
open PySem PySem.Spec PyProof.Rows L2 NdefX
/-- how such a call is evaluated (by rfl, where the text is written) -/
def SupEval (env : Env) (p0 p1 p2 pos : Pos) (es : List Expr) : Prop := ∃ pl : Sem Bool, eval (.Call (.Attribute (.Call (.Name "super" p0) [] [] p1) "__init__" p2) es [] pos) env = (do
  let ov ← attributeBase (.Call (.Name "super" p0) [] [] p1) "__init__" env (eval (.Call (.Name "super" p0) [] [] p1) env)
  standAt p2.atName
  let (fn, fi) ← holding [ov] (getMethod ov "__init__" pl)
  callWith pos fn fi (backTo pos (starEach es env)) [])
section
variable {CX : CXT} {P : Program} {w : World} {K : PySem.W.Frag} {mg : Str → Option Value} {base : Heap} {k : Nat} {f cda cc C : Addr} {name qual me : Str} {params : Arguments} {scope : Scope} {kV doc pm ct oc : Value} {an od cld : Option Addr} {osl csl : Array (Option Value)} {cl : Value} {N ps : List Str} {sp : Sp}
  {p0 p1 p2 pos pE : Pos} {e1 : Expr} {es : List Expr} {rest : List Stmt}
theorem fn_init (lk : K.lookup f = some ⟨oc, od, .func (PySem.W.fnX name qual params (.Expr (.Call (.Attribute (.Call (.Name "super" p0) [] [] p1) "__init__" p2) (e1 :: es) [] pos) pE :: rest) scope [("__class__", cc)] .none kV doc pm an (.ref cda) ct), osl⟩) (hcd : PySem.W.codeIn K (.ref cda) qual = true)
    (hc : K.lookup cc = some ⟨cl, cld, .cell (some (.ref C)), csl⟩) (T : SupC P K mg C f cda me)
    (S : NScope N ps ["__class__"] scope) (hks : scope.names.lookup ("super" : Str) = some .globalImplicit) (hps : ∃ ps', ps = me :: ps') (hme : (me == ("__classdict__" : Str)) = false) (len : ∀ vs H Q E, sp vs H Q E → vs.length = ps.length)
    (hswap : ∀ L, swapsWith (.Call (.Attribute (.Call (.Name "super" p0) [] [] p1) "__init__" p2) (e1 :: es) [] pos) none pE.line (envF (cloF name qual params (.Expr (.Call (.Attribute (.Call (.Name "super" p0) [] [] p1) "__init__" p2) (e1 :: es) [] pos) pE :: rest) scope cc cda) f L) = pure false)
    (heval : ∀ L, SupEval (envF (cloF name qual params (.Expr (.Call (.Attribute (.Call (.Name "super" p0) [] [] p1) "__init__" p2) (e1 :: es) [] pos) pE :: rest) scope cc cda) f L) p0 p1 p2 pos (e1 :: es))
    (hstar : ∀ env : Env, starEach (e1 :: es) env = (false, eval e1 env) :: starEach es env) (hpl : ∀ env : Env, (backTo pos (starEach es env)).any (·.1) = false)
    (hbody : ∀ (A : Around) (outer : List Env) (s : Shared) (H : Hp) (vs : List V) (Q : VK) (E : XK), Room k (A.deeper (envF (cloF name qual params (.Expr (.Call (.Attribute (.Call (.Name "super" p0) [] [] p1) "__init__" p2) (e1 :: es) [] pos) pE :: rest) scope cc cda) f s.heap.objs.size)) → sp vs H Q E →
      ∃ (ta : TA) (tr : TS) (a : Addr), PA (ncx CX P w K mg base N (cloF name qual params (.Expr (.Call (.Attribute (.Call (.Name "super" p0) [] [] p1) "__init__" p2) (e1 :: es) [] pos) pE :: rest) scope cc cda) f A outer s H E) (e1 :: es) ta ∧
        PSs (ncx CX P w K mg base N (cloF name qual params (.Expr (.Call (.Attribute (.Call (.Name "super" p0) [] [] p1) "__init__" p2) (e1 :: es) [] pos) pE :: rest) scope cc cda) f A outer s H E) rest tr ∧ vs.head? = some (.ref a) ∧ H a = some (exo a C none) ∧
        ta (startF N vs [some (.ref C)]) H fun us H1 => us.length ≤ 1000 ∧ H1 a = some (exo a C none) ∧ tr { nx := fun _ H' => Q .non H', rt := Q } (startF N vs [some (.ref C)]) H1) :
    FnOk P w K mg base CX (k + 1) f (PySem.W.fnX name qual params (.Expr (.Call (.Attribute (.Call (.Name "super" p0) [] [] p1) "__init__" p2) (e1 :: es) [] pos) pE :: rest) scope [("__class__", cc)] .none kV doc pm an (.ref cda) ct) ps sp := by
  refine ⟨len, fun A outer s H args us vs Q E hr e0 hb r hsp => ?_⟩
  have hl := len _ _ _ _ hsp
  have KX : K.In s.heap := e0.mod.kin.keeps fun b o e => (e0.bs b o e).1
  have kH : ∀ b o, K.lookup b = some o → H b = none := fun b o e => (e0.bs b o (e0.mod.kin _ _ e)).2
  have lim : s.heap.NoLimit := e0.mod.nolimit.keeps fun b o e => (e0.bs b o e).1
  refine codeAny_call_function hr.depth (KX _ _ lk) rfl S.co S.gen rfl (PySem.W.codeRec_of KX hcd) (hb _ _ _ _ ?_)
  refine wpAny_newFunctionEnv S.nocell (fun ⟨n, _⟩ hy => S.par n (List.of_mem_zip hy).1) (fun h₁ hns hsb => ⟨lim.fresh _ hsb, ?_⟩) S.kind
  show codeAny _ _ (.func (cloF name qual params (.Expr (.Call (.Attribute (.Call (.Name "super" p0) [] [] p1) "__init__" p2) (e1 :: es) [] pos) pE :: rest) scope cc cda).body (envF (cloF name qual params (.Expr (.Call (.Attribute (.Call (.Name "super" p0) [] [] p1) "__init__" p2) (e1 :: es) [] pos) pE :: rest) scope cc cda) f s.heap.objs.size)) _ _
  obtain ⟨ta, tr, a, hta, htr, hv0, hHa, hq⟩ := hbody A outer s H vs Q E (hr.deeper _) hsp
  obtain ⟨pl, hev⟩ := heval s.heap.objs.size
  have hsw := hswap s.heap.objs.size
  have kp : ∀ b o, s.heap.get? b = some o → h₁.get? b = some o := fun b o e => hsb.extBut b o (Nat.ne_of_lt (Heap.lt_size e)) (Heap.get?_push_of_some _ e)
  generalize hF : cloF name qual params (.Expr (.Call (.Attribute (.Call (.Name "super" p0) [] [] p1) "__init__" p2) (e1 :: es) [] pos) pE :: rest) scope cc cda = F at hta htr hev hsw ⊢
  have I : Inv (ncx CX P w K mg base N F f A outer s H E) [] (startF N vs [some (.ref C)]) H { s with heap := h₁, toks := s.toks + (ps.zip us).length } := by
    subst hF
    exact inv_startN S hr.hd e0 hl r (clo_cells KX kH hc) hns kp
  have hbd : F.body = (.Expr (.Call (.Attribute (.Call (.Name "super" p0) [] [] p1) "__init__" p2) (e1 :: es) [] pos) pE :: rest) := by subst hF; rfl
  have hsc : F.scope = scope := by subst hF; rfl
  have hcc : F.c = cda := by subst hF; rfl
  obtain ⟨ps', rfl⟩ := hps
  have hN0 : N[0]? = some me := by
    have q := congrArg (fun l => l[0]?) S.pre
    rw [List.getElem?_take_of_lt (by simp only [List.length_cons]; omega)] at q
    exact q
  have hN1 : N[(me :: ps').length]? = some ("__class__" : Str) := by
    have q := congrArg (fun l => l[(me :: ps').length]?) S.pre
    rw [List.getElem?_take_of_lt (by simp only [List.length_cons, List.length_nil]; omega), List.getElem?_append_right (Nat.le_refl _), Nat.sub_self] at q
    exact q
  have vi : (startF N vs [some (.ref C)])[0]? = some (some (.ref a)) := by
    unfold startF
    cases vs with
    | nil => cases hv0
    | cons v vr =>
      simp at hv0
      subst hv0
      rfl
  have vj : (startF N vs [some (.ref C)])[(me :: ps').length]? = some (some (.ref C)) := by
    unfold startF
    rw [List.getElem?_append_right (by rw [List.length_map, hl]; exact Nat.le_refl _), List.length_map, hl, Nat.sub_self]
    rfl
  rw [hbd]
  refine PySem.ks_codeAny_funcAt (PySem.ks_wpAt_execs_cons (PySem.ks_wpAt_Expr_any (PySem.wpAt_mono (run_supinit (X := ncx CX P w K mg base N F f A outer s H E) (i := 0) (j := (me :: ps').length) (Q := fun _ H1 => tr { nx := fun _ H' => Q .non H', rt := Q } (startF N vs [some (.ref C)]) H1) T I rfl (by show Value.ref F.c = _; rw [hcc]) (by show F.scope.names.lookup _ = _; rw [hsc]; exact hks)
    (by show F.scope.names.lookup _ = _; rw [hsc]; exact S.frk _ (by simp)) (by show F.scope.names.lookup _ = _; rw [hsc]; exact S.par _ (by simp)) hme hN0 hN1 vi vj hHa hta hq hev (hstar _) (hpl _)) (fun v s1 hv => ?_) fun e s' hs => hs) I.quiet hsw))
  obtain ⟨x, H1, J, rx, q⟩ := hv
  refine PySem.wpAt_of_wpAny (wpAny_mono (htr.run [] _ (startF N vs [some (.ref C)]) H1 _ J q) (fun fl s' hs => ?_) fun e s' hs => hs)
  have fin : ∀ {σ' : L2.St} {H' : Hp} {v : V} {u : Value}, Inv (ncx CX P w K mg base N F f A outer s H E) [] σ' H' s' → L2.RelV v u → Q v H' → CE outer P w H s Q u s' := fun J rv q => ⟨_, _, J.os, J.bare, J.base, J.hok, rv, q⟩
  cases fl with
  | ret u =>
    obtain ⟨v, σ', H', J, rv, q⟩ := hs
    exact fin J rv q
  | next =>
    obtain ⟨σ', H', J, q⟩ := hs
    exact fin (v := V.non) (u := Value.none) J rfl q
  | brk =>
    obtain ⟨_, _, _, q⟩ := hs
    exact False.elim q
  | cont =>
    obtain ⟨_, _, _, q⟩ := hs
    exact False.elim q
end
end FR

/-! {x} in an f-string, x a text, an int, or a tuple of ints; the __init__ of an own error with one value. -/
namespace FR
open PySem PySem.Spec PyProof.Rows L2 NdefX
def IntOk (i : Int) : Prop := i.natAbs.log2 < 1920
theorem int_len {i : Int} (h : IntOk i) : (Str.ofString (toString i)).length ≤ 1921 := by
  have e := int_text_length_le (k := 1920) (by decide) h
  rw [PySem.ofString_length]
  exact e
/-- what may stand in the message -/
def Said (K : PySem.W.Frag) (H : Hp) (v : V) : Prop := (∃ y : Str, v = .str y ∧ y.length ≤ 1000) ∨ (∃ i : Int, v = .int i ∧ IntOk i) ∨ ∃ (a : Addr) (ns : List Int), v = .ref a ∧ SqT K H a (ns.map V.int) ∧ ns.length ≤ 10 ∧ ∀ i ∈ ns, IntOk i
def tSay (K : PySem.W.Frag) (te : TE) : TE := fun σ H Q => te σ H fun x H1 => Said K H1 x ∧ ∀ m : Str, m.length ≤ 30000 → Q (.str m) H1
theorem repr_ints {prog : Program} {w : World} : ∀ {ns : List Int} {its : List Value}, Vals (ns.map V.int) its → (∀ i ∈ ns, IntOk i) → ReprAll prog w its (ns.map fun i => Str.ofString (toString i))
  | [], _, .nil, _ => .nil
  | n :: ns, _, .cons ⟨t, e⟩ r, h => by
    subst e
    exact .cons (ReprIs.int t (h n List.mem_cons_self)) (repr_ints r fun i m => h i (List.mem_cons_of_mem _ m))
theorem pile_ints : ∀ {ns : List Int}, (∀ i ∈ ns, IntOk i) → piled (ns.map fun i => Str.ofString (toString i)) ≤ 1923 * ns.length
  | [], _ => Nat.zero_le _
  | n :: ns, h => by
    have q := pile_ints (ns := ns) fun i m => h i (List.mem_cons_of_mem _ m)
    have q2 := int_len (h n List.mem_cons_self)
    rw [List.map_cons, piled_cons, List.length_cons]
    omega
section
variable {X : Cx}
theorem pe_say {e : Expr} {te : TE} {pos : Pos} {k : Nat} (hr : L2.Room k X.A) (he : PE X e te) : PE X (.FormattedValue e (-1) none pos) (tSay X.K te) := by
  refine ⟨fun pins s σ H Q I h => ?_⟩
  refine wpAny_FormattedValue_plain (thn (he.run pins s σ H _ I h) fun v s1 hv => ?_)
  obtain ⟨x, H1, I1, r1, sd, q⟩ := hv
  rcases sd with ⟨y, rfl, hz⟩ | ⟨i, rfl, hz⟩ | ⟨a, ns, rfl, ht, hl, hi⟩
  · obtain ⟨t, rfl⟩ := r1
    have q1 := q y (by omega)
    exact wpAny_formatField_str ⟨.str y, H1, I1, ⟨t, rfl⟩, q1⟩ ⟨.str y, H1, I1.tok _, ⟨_, rfl⟩, q1⟩ (by rw [sizeLine_eq]; omega)
  · obtain ⟨t, rfl⟩ := r1
    exact wpAny_formatField_int hz ⟨.str (toString i), H1, I1.tok _, ⟨_, rfl⟩, q _ (by have := int_len hz; omega)⟩
  · cases r1
    obtain ⟨its, rv, ⟨o, ho, hcl, n, hd⟩, _⟩ := I1.tuple ht
    have hp := pile_ints hi
    have htx := fmt_text (ns.map fun i => Str.ofString (toString i))
    have hu := hr.units
    have hsl := sizeLine_eq
    exact fmt_tuple (ts := ns.map fun i => Str.ofString (toString i)) (by omega) ho hcl hd (repr_ints rv hi) (by omega) fun m u tk hm => ⟨.str m, H1, I1.tok _, ⟨u, rfl⟩, q m (by omega)⟩
end
/-- an own error's __init__(self, what) -/
def spInit (K : PySem.W.Frag) (C : Addr) : Sp := fun vs H Q _ => ∃ (a : Addr) (v : V), vs = [.ref a, v] ∧ H a = some (exo a C none) ∧ Said K H v ∧ ∀ dx, H dx = none → dx ≠ a → Q .non (upd (upd H dx (exd dx [("what", v)])) a (exo a C (some dx)))
end FR

namespace FR
open PySem PySem.Spec PyProof.Rows L2 NdefX
section
variable {CX : CXT} {P : Program} {w : World} {K : PySem.W.Frag} {mg : Str → Option Value} {base : Heap} {k : Nat} {f cda cc C : Addr} {qual msg : Str} {params : Arguments} {scope : Scope} {kV doc pm ct oc : Value} {an od cld : Option Addr} {osl csl : Array (Option Value)} {cl : Value}
  {p0 p1 p2 pos pE q1 q2 q3 q4 q5 q6 q7 q8 : Pos} {j1 : Nat}
theorem ok_init (lk : K.lookup f = some ⟨oc, od, .func (PySem.W.fnX "__init__" qual params (.Expr (.Call (.Attribute (.Call (.Name "super" p0) [] [] p1) "__init__" p2) [.JoinedStr [.Constant (.str msg) j1 q1, .FormattedValue (.Name "what" q2) (-1) none q3] q4] [] pos) pE :: [.Assign [.Attribute (.Name "self" q5) "what" q6] (.Name "what" q7) q8]) scope [("__class__", cc)] .none kV doc pm an (.ref cda) ct), osl⟩) (hcd : PySem.W.codeIn K (.ref cda) qual = true)
    (hc : K.lookup cc = some ⟨cl, cld, .cell (some (.ref C)), csl⟩) (T : SupC P K mg C f cda "self") (S : NScope ["self", "what", "__class__"] ["self", "what"] ["__class__"] scope) (hks : scope.names.lookup ("super" : Str) = some .globalImplicit)
    (hw : PySem.W.findIn K (.ref C) "what" = some none) (hmsg : msg.length ≤ 1000) (heval : ∀ L, SupEval (envF (cloF "__init__" qual params (.Expr (.Call (.Attribute (.Call (.Name "super" p0) [] [] p1) "__init__" p2) [.JoinedStr [.Constant (.str msg) j1 q1, .FormattedValue (.Name "what" q2) (-1) none q3] q4] [] pos) pE :: [.Assign [.Attribute (.Name "self" q5) "what" q6] (.Name "what" q7) q8]) scope cc cda) f L) p0 p1 p2 pos [.JoinedStr [.Constant (.str msg) j1 q1, .FormattedValue (.Name "what" q2) (-1) none q3] q4]) :
    FnOk P w K mg base CX (k + 1) f (PySem.W.fnX "__init__" qual params (.Expr (.Call (.Attribute (.Call (.Name "super" p0) [] [] p1) "__init__" p2) [.JoinedStr [.Constant (.str msg) j1 q1, .FormattedValue (.Name "what" q2) (-1) none q3] q4] [] pos) pE :: [.Assign [.Attribute (.Name "self" q5) "what" q6] (.Name "what" q7) q8]) scope [("__class__", cc)] .none kV doc pm an (.ref cda) ct) ["self", "what"] (spInit K C) := by
  refine fn_init lk hcd hc T S hks ⟨["what"], rfl⟩ (by decide) (fun vs H Q E h => ?_) (fun L => ?_) heval (fun _ => rfl) (fun _ => rfl) (fun A outer s H vs Q E hr h => ?_)
  · obtain ⟨a, v, rfl, _⟩ := h
    rfl
  · rfl
  · obtain ⟨a, v, rfl, hHa, sd, out⟩ := h
    have l0 : scope.names.lookup ("self" : Str) = some .local := S.par _ (by simp)
    have l1 : scope.names.lookup ("what" : Str) = some .local := S.par _ (by simp)
    refine ⟨_, _, a, pa_cons (pe_joined (.cons pe_str (.cons (pe_say hr (pe_var (i := 1) rfl (.inl l1))) .nil))) pa_nil, pss_one (ps_ost (pe_var (i := 0) rfl (.inl l0)) (pe_var (i := 1) rfl (.inl l1)) ?_), rfl, hHa, ?_⟩
    · rfl
    · refine ⟨msg, rfl, ?_, v, rfl, sd, fun m hm => ⟨m, rfl, ?_, ?_⟩⟩
      · rw [strLen_append, sizeLine_eq]
        show 0 + msg.length ≤ _
        omega
      · rw [strLen_append, strLen_append, sizeLine_eq]
        show 0 + msg.length + m.length ≤ _
        omega
      · refine ⟨(by show 1 ≤ 1000; decide), hHa, v, rfl, _, rfl, a, C, rfl, T.ow, hw, .inl ⟨hHa, fun dx n ne => out dx n ne⟩⟩
end
end FR

/-! An own error raised. -/
namespace FR
open PySem PySem.Spec PyProof.Rows L2
/-- an own error class as it stands at a name of the module -/
structure ErrC (P : Program) (w : World) (K : PySem.W.Frag) (mg : Str → Option Value) (base : Heap) (k : Nat) (x : Str) (C fI : Addr) (fd : FuncData) : Prop where
  ow : OexC K C
  iC : PySem.W.findIn K (.ref C) "__init__" = some (some (.ref fI))
  tI : PySem.W.typeIn K (.ref fI) = some (.type "function")
  ok : FnOk P w K mg base CX0 k fI fd ["self", "what"] (spInit K C)
  b : Binds K fd ["self", "what"] []
  m : mg x = some (.ref C)
theorem Said.same {K : PySem.W.Frag} {H H' : Hp} {v : V} (h : Said K H v) (s : Same H H') : Said K H' v := by
  rcases h with h | h | ⟨a, ns, e, ht, hl, hi⟩
  · exact .inl h
  · exact .inr (.inl h)
  · refine .inr (.inr ⟨a, ns, e, ?_, hl, hi⟩)
    rcases ht with (ht | ⟨o, ht⟩) | ht
    · exact .inl (.inl (s _ _ ht))
    · exact .inl (.inr ⟨o, s _ _ ht⟩)
    · exact .inr ht
/-- what the making of an own error asks, of its own __init__'s promise -/
theorem made_err {K : PySem.W.Frag} {C : Addr} {H1 : Hp} {v : V} {Q : XK} {E : XK} (sd : Said K H1 v) (q : ∀ (d : Addr) (H2 : Hp), Same H1 H2 → H1 d = none → H2 d = some (.xd [("what", v)]) → Q (.ref C) (some d) H2) (a : Addr) (na : H1 a = none) :
    spInit K C (.ref a :: ([v] ++ [])) (upd H1 a (exo a C none)) (fun v' H2 => v' = .non ∧ ∃ (d : Addr) (fs : List (Str × V)), H2 a = some (exo a C (some d)) ∧ H2 d = some (exd d fs) ∧ H1 d = none ∧ Q (.ref C) (some d) (upd (del H2 a) d (.xd fs))) E := by
  refine ⟨a, v, rfl, upd_same, sd.same (same_new na), fun dx n ne => ⟨rfl, dx, [("what", v)], upd_same, ?_, ?_, ?_⟩⟩
  · rw [upd_ne ne]
    exact upd_same
  · rw [upd_ne ne] at n
    exact n
  · have n1 : H1 dx = none := by
      rw [upd_ne ne] at n
      exact n
    refine q dx _ (fun b o e => ?_) n1 upd_same
    have ba := ne_of_none e na
    have bd := ne_of_none e n1
    rw [upd_ne bd, del_ne ba, upd_ne ba, upd_ne bd, upd_ne ba]
    exact e
end FR

/-! While an error is handled: the end of a list that is walked, a tuple taken apart. -/
namespace FR
open PySem PySem.Spec PyProof.Rows L2 HotX
section
variable {prog : Program} {w : World} {A : Around} {E : Value → Shared → Prop} {s : Shared}
/-- what ends an iterator's walk, as the interpreter makes it: a fresh StopIteration, told to nobody -/
theorem stop_hot {x1 : Addr} {R : Value → Shared → Prop} {α : Type} {Q : α → Shared → Prop} {s : Shared} (hot : HotAt A x1 s.heap)
    (h : ∀ (a : Addr) (h' : Heap), (∀ b o, s.heap.get? b = some o → h'.get? b = some o) → Shared.TypeIs { s with heap := h' } (.ref a) "StopIteration" → R (.ref a) { s with heap := h' }) :
    wpAny (model prog w) A (newExc (.type "StopIteration") [] >>= fun e => (raiseNew e : Sem α)) Q R s := by
  obtain ⟨hh, o1, v1, g1, d1, c1⟩ := hot
  refine wpAny_bind ?_
  unfold newExc newTuple
  refine wpAny_bind (wpAny_newObj_type ?_ (by size_fits))
  refine wpAny_bind (m := firstArgMember _ _) (wpAny_of_eq (a := Value.none) (by first | rfl | (simp only [firstArgMember]; rfl)) ?_)
  refine wpAny_newObj_type ?_ (by size_fits)
  refine raiseNew_hot ⟨hh, o1, v1, Heap.get?_push_of_some _ (Heap.get?_push_of_some _ g1), d1, c1⟩ (Nat.ne_of_lt (Heap.lt_size (Heap.get?_push_of_some _ g1))) (Heap.get?_push_size _ rfl) rfl (by first | (simp; done) | (simp; omega) | (simp only [Array.size_append]; simp; omega)) ?_
  refine h _ _ (fun b o e => ?_) ⟨_, Heap.get?_update_self _ (Heap.get?_push_size _ rfl) rfl, rfl⟩
  exact (Heap.get?_update_other _ _ (Nat.ne_of_gt (Heap.lt_size (Heap.get?_push_of_some _ e)))).trans (Heap.get?_push_of_some _ (Heap.get?_push_of_some _ e))

/-- a list's iterator behind its last item -/
theorem list_end_hot {it l x1 : Addr} {i : Nat} {items : Array Value} {Q : Option Value → Shared → Prop} (hot : HotAt A x1 s.heap) (hne : x1 ≠ it) (hit : s.heap.IsListIter it l i) (hl : s.heap.IsList l items) (hx : items[i]? = none)
    (hQ : ∀ h', (∀ b o, b ≠ it → s.heap.get? b = some o → h'.get? b = some o) → Q none { s with heap := h' }) : wpAny (model prog w) A (pyNext (.ref it)) Q E s := by
  obtain ⟨o, ho, hc, hd⟩ := id hit
  obtain ⟨ol, hol, _, nl, hdl⟩ := hl
  obtain ⟨hh, o1, v1, g1, d1, c1⟩ := hot
  unfold pyNext
  refine wpAny_bind (wpAny_attempt (wpAny_callSpecial?_slot (name := Str.ofString "__next__") hit.typeIs slot_listiter_next
    (wpAny_call_entry slot_listiter_next hit.typeIs entry_listiter_next ?_ (args_listiter_next _))))
  show wpAny _ _ (field (.ref it) 0 >>= _) _ _ s
  refine wpAny_bind (wpAny_field ho hd (x := .ref l) rfl ?_)
  have nb : ¬ ((Value.ref l == Value.none) = true) := fun z => Bool.noConfusion z
  show wpAny _ _ (if (Value.ref l == Value.none) = true then _ else _) _ _ s
  rw [if_neg nb]
  show wpAny _ _ (field (.ref it) 1 >>= _) _ _ s
  refine wpAny_bind (wpAny_field ho hd (x := .int i 0) rfl ?_)
  show wpAny _ _ (seqItems? (.ref l) >>= _) _ _ s
  refine wpAny_bind (wpAny_seqItems hol hdl ?_)
  simp only [Int.toNat_natCast, hx]
  refine wpAny_bind (wpAny_rule (wpAny_bind (wpAny_setField ho hd (by simp) ?_)))
  refine stop_hot (x1 := x1) ⟨hh, o1, v1, (Heap.get?_update_other _ _ (Ne.symm hne)).trans g1, d1, c1⟩ fun a h' k st => ?_
  refine wpAny_bind (wpAny_isInstance (T := "StopIteration") (b := true) st isSubtype_stop ?_)
  exact wpAny_pure (hQ h' fun b u nbi e => k b u ((Heap.get?_update_other _ _ (Ne.symm nbi)).trans e))
theorem tup_end_hot {it t x1 : Addr} {i : Nat} {items : Array Value} {Q : Option Value → Shared → Prop} (hot : HotAt A x1 s.heap) (hne : x1 ≠ it) (hit : IsTupIter s.heap it t i) (ht : IsTup s.heap t items) (hx : items[i]? = none)
    (hQ : ∀ h', (∀ b o, b ≠ it → s.heap.get? b = some o → h'.get? b = some o) → Q none { s with heap := h' }) : wpAny (model prog w) A (pyNext (.ref it)) Q E s := by
  obtain ⟨o, ho, hc, hd⟩ := id hit
  obtain ⟨ol, hol, _, nl, hdl⟩ := ht
  obtain ⟨hh, o1, v1, g1, d1, c1⟩ := hot
  unfold pyNext
  refine wpAny_bind (wpAny_attempt (wpAny_callSpecial?_slot (name := Str.ofString "__next__") hit.typeIs slot_tupleiter_next
    (wpAny_call_entry slot_tupleiter_next hit.typeIs entry_tupleiter_next ?_ (args_tupleiter_next _))))
  show wpAny _ _ (field (.ref it) 0 >>= _) _ _ s
  refine wpAny_bind (wpAny_field ho hd (x := .ref t) rfl ?_)
  have nb : ¬ ((Value.ref t == Value.none) = true) := fun z => Bool.noConfusion z
  show wpAny _ _ (if (Value.ref t == Value.none) = true then _ else _) _ _ s
  rw [if_neg nb]
  show wpAny _ _ (field (.ref it) 1 >>= _) _ _ s
  refine wpAny_bind (wpAny_field ho hd (x := .int i 0) rfl ?_)
  show wpAny _ _ (seqItems? (.ref t) >>= _) _ _ s
  refine wpAny_bind (wpAny_seqItems hol hdl ?_)
  simp only [Int.toNat_natCast, hx]
  refine wpAny_bind (wpAny_rule (wpAny_bind (wpAny_setField ho hd (by simp) ?_)))
  refine stop_hot (x1 := x1) ⟨hh, o1, v1, (Heap.get?_update_other _ _ (Ne.symm hne)).trans g1, d1, c1⟩ fun a h' k st => ?_
  refine wpAny_bind (wpAny_isInstance (T := "StopIteration") (b := true) st isSubtype_stop ?_)
  exact wpAny_pure (hQ h' fun b u nbi e => k b u ((Heap.get?_update_other _ _ (Ne.symm nbi)).trans e))
/-- (a, b, ..) = a tuple -/
theorem tup_apart_hot {x1 : Addr} {env : Env} {elts : List Expr} {k : Nat} {pos : Pos} {t : Addr} {items : Array Value} {Q : Unit → Shared → Prop} (hot : HotAt A x1 s.heap) (ht : IsTup s.heap t items)
    (hn : (assignEach elts env).length = items.size) (hstar : (assignEach elts env).findIdx? (·.1) = none)
    (h : ∀ h', (∀ b o, s.heap.get? b = some o → h'.get? b = some o) → wpAny (model prog w) A (assignInOrder ((assignEach elts env).map (·.2)) items.toList) Q E { s with heap := h' }) :
    wpAny (model prog w) A (assign (.Tuple elts k pos) env (.ref t)) Q E s := by
  obtain ⟨hh, o1, v1, g1, d1, c1⟩ := hot
  have hlt : t ≠ s.heap.objs.size := by obtain ⟨o, ho, _⟩ := ht; exact Nat.ne_of_lt (Heap.lt_size ho)
  have hlx : x1 ≠ s.heap.objs.size := Nat.ne_of_lt (Heap.lt_size g1)
  rw [assign_Tuple]
  refine wpAny_bind (wpAny_standAt ?_)
  unfold unpack
  rw [hn, hstar]
  refine wpAny_bind (wpAny_holding ?_)
  unfold unpackItems
  refine wpAny_bind ?_
  unfold notIterableAtAll
  refine wpAny_bind (wpAny_specialOf ht.typeIs slot_tuple_iter.lookup (wpAny_pure ?_))
  simp only [Bool.false_eq_true, if_false]
  refine wpAny_bind (wpAny_holding (iter_tuple ht (wpAny_bind (wpAny_holding (draw_tuple hlt items.size 0 _ _ ⟨_, Heap.get?_push_size _ rfl, rfl, rfl⟩ (ht.push _) (by omega) fun h₁ hit₁ hs₁ => ?_)))))
  have hall : List.take items.size (List.drop 0 items.toList) = items.toList := by
    rw [List.drop_zero]; exact List.take_of_length_le (by simp)
  rw [hall, if_neg (by simp)]
  have k1 : ∀ b o, s.heap.get? b = some o → h₁.get? b = some o := fun b o e => hs₁.extBut b o (Nat.ne_of_lt (Heap.lt_size e)) (Heap.get?_push_of_some _ e)
  refine wpAny_bind (wpAny_holding (tup_end_hot (x1 := x1) ⟨hh, o1, v1, k1 _ _ g1, d1, c1⟩ hlx hit₁ ((ht.push _).extBut hs₁.extBut hlt) (by simp) fun h₂ he₂ => ?_))
  simp only [Option.isSome_none, Bool.false_eq_true, if_false]
  exact wpAny_pure (h h₂ fun b o e => he₂ b o (Nat.ne_of_lt (Heap.lt_size e)) (k1 b o e))
end
end FR

/-! [elt for target in a list if ..] while an error is handled. -/
namespace FR
open PySem PySem.Spec PyProof.Rows L2 L2H HotX
/-- the handled error stood at the entry, and nobody who runs may turn it -/
def HotB (X : Cx) : Prop := ∃ p : Addr × Obj, Hot1 X.A p ∧ X.s_0.heap.get? p.1 = some p.2 ∧ X.H_0 p.1 = none ∧ p.1 ∉ X.fs ∧ p.1 ∉ X.ex
theorem HotB.now {X : Cx} {pins : List (Addr × Obj)} {σ : L2.St} {H : Hp} {s : Shared} (c : HotB X) (I : Inv X pins σ H s) : ∃ x1, HotAt X.A x1 s.heap ∧ x1 ∉ X.ex := by
  obtain ⟨p, ⟨hh, v1, e1, c1⟩, g, f, n, x⟩ := c
  exact ⟨p.1, ⟨hh, p.2, v1, I.base.keep p.1 p.2 g f n x, e1, c1⟩, x⟩
section
variable {X : Cx}
theorem pg_tupB {es : List Expr} {k : Nat} {pos : Pos} {t : TGs} {n : Nat} (hb : HotB X) (h : PGs X es t)
    (hn : (assignEach es X.env).length = n := by rfl) (hst : (assignEach es X.env).findIdx? (·.1) = none := by rfl) : PG X (.Tuple es k pos) (gTup X.K n t) := by
  constructor
  intro pins s σ H v u Q I r hw
  obtain ⟨a, xs, rfl, hq, hl, hw⟩ := hw
  cases r
  obtain ⟨its, rv, ht, hz⟩ := I.tuple hq
  obtain ⟨x1, hot, -⟩ := hb.now I
  have hsz : (assignEach es X.env).length = its.toArray.size := by
    rw [hn, ← hl, rv.length]
    simp
  refine tup_apart_hot hot ht hsz hst fun h' k1 => h.run pins _ σ H xs _ Q (I.kept (t' := s.toks) k1) ?_ hw
  simpa using rv
theorem pe_lcH {elt tg iter : Expr} {ifs : List Expr} {scope : Scope} {own : List (Str × Nat)} {pos : Pos} {ti : TE} {g : TG} {tt : TT} {te : TE} (hc : HotC X) (hN : X.N.Nodup) (h0 : PE X iter ti) (ok : BlkOk X.N X.env.scope scope own)
    (hg : ∀ (s : Shared) (H : Hp) (C : Addr) (cl : List (Str × Addr)) (fp : List Addr), HotB (X.blk s H scope (compEnvC scope cl C X.env) fp) → PG (X.blk s H scope (compEnvC scope cl C X.env) fp) tg g)
    (ht : ∀ (s : Shared) (H : Hp) (C : Addr) (cl : List (Str × Addr)) (fp : List Addr), PTs (X.blk s H scope (compEnvC scope cl C X.env) fp) ifs tt)
    (he : ∀ (s : Shared) (H : Hp) (C : Addr) (cl : List (Str × Addr)) (fp : List Addr), PE (X.blk s H scope (compEnvC scope cl C X.env) fp) elt te) (hs : ∀ x, foldedSetIterable iter X.env x = pure x := by intro _; rfl) :
    PE X (.ListComp elt [⟨tg, iter, ifs, 0⟩] scope pos) (tLc (iList X.K ti) g tt te (own.map (·.2))) := by
  constructor
  intro pins s σ H Q I h
  rw [eval_ListComp]
  have hfree : ∀ y ∈ scope.names, y.2 = .free → ∃ c, X.env.cells.lookup y.1 = some c := fun y hy e => I.ok.has _ (ok.free y hy e)
  refine wpAny_comprehension_free (use := none) rfl hs (closure_ok hfree) ok.kind (fun y hy e => by rw [ok.uniq y hy, e]) (thn (h0.run pins s σ H _ I h) fun v s1 hv => ?_)
  obtain ⟨x, H1, I1, r1, a, rfl, ⟨xs, hq⟩, q⟩ := hv
  cases r1
  obtain ⟨its, rv, pl, hz⟩ := I1.list hq
  refine wpAny_pyIter_list pl.isList ?_
  generalize hit : s1.heap.objs.size = it
  have fpI : FpOk X pins H1 it := I1.fpOk (Nat.le_of_eq hit) (I1.hok.fresh (Nat.le_of_eq hit))
  generalize hs2 : ({ s1 with heap := s1.heap.push { cls := .type "list_iterator", data := .fields #[.ref a, .int 0 0] } } : Shared) = s2
  have k2 : ∀ b o, s1.heap.get? b = some o → s2.heap.get? b = some o := fun b o e => by rw [← hs2]; exact Heap.get?_push_of_some _ e
  have I2 : Inv X pins σ H1 s2 := by rw [← hs2]; exact I1.kept (t' := s1.toks) fun b o e => Heap.get?_push_of_some _ e
  have st2 : s2.heap.IsListIter it a 0 := by rw [← hs2, ← hit]; exact ⟨_, Heap.get?_push_size _ rfl, rfl, rfl⟩
  have lt2 : it < s2.heap.objs.size := by
    obtain ⟨o, e, _⟩ := id st2
    exact Heap.lt_size e
  refine wpAny_newObj_type (newEnv_comp ?_) (by show 0 ≤ sizeLine; decide)
  generalize hD : s2.heap.objs.size = D
  obtain ⟨W, ⟨m0, w0⟩, turn⟩ := q D (I2.hok.fresh (Nat.le_of_eq hD))
  generalize hs3 : ({ s2 with heap := s2.heap.push { cls := .type "list", data := .seq ([] : List Value).toArray } } : Shared) = s3
  have e3 : s3.heap = s2.heap.push { cls := .type "list", data := .seq ([] : List Value).toArray } := by rw [← hs3]
  have I3 : Inv X pins σ (upd H1 D (.lst [])) s3 := by
    rw [← hs3]
    exact I2.laid (t' := s2.toks) (fun b o e => Heap.get?_push_of_some _ e) (Nat.le_of_eq hD) ⟨Nat.zero_le _, [], 0, .nil, by rw [← hD]; exact Heap.get?_push_size _ rfl⟩
  have nit : (upd H1 D (.lst [])) it = none := by
    rw [upd_ne (by rw [← hD]; exact Nat.ne_of_lt lt2)]
    exact fpI.1
  have f3 : ∀ b ∈ [it], FpOk X pins (upd H1 D (.lst [])) b ∧ b < s3.heap.objs.size := fun b hb => by
    rw [List.mem_singleton.mp hb]
    exact ⟨⟨nit, fpI.2⟩, by rw [e3, Heap.size_push]; exact Nat.lt_succ_of_lt lt2⟩
  have st3 : s3.heap.IsListIter it a 0 := st2.at fun o e => by rw [e3]; exact Heap.get?_push_of_some _ e
  have I4 := block_start I3 ok hN f3
  -- the error that is handled, as the block finds it
  have hB : ∀ (ce : Env), HotB (X.blk s3 (upd H1 D (.lst [])) scope ce [it]) := fun ce => by
    obtain ⟨p, hot, hp⟩ := hc
    have P1 := I3.pin p (List.mem_append_left _ hp)
    refine ⟨p, hot, P1.1, P1.2.1, fun hm => (List.mem_cons.mp (I3.stkSub p.1 hm)).elim P1.2.2.1 P1.2.2.2.1, fun hm => ?_⟩
    exact fpI.2.2.2.2.2 p (List.mem_append_left _ hp) (List.mem_singleton.mp hm)
  have pg := hg s3 (upd H1 D (.lst [])) s3.heap.objs.size (cellsFrom (s3.heap.objs.size + 1) scope.names (cloFrom X.env.cells scope.names [])) [it] (hB _)
  have pt := ht s3 (upd H1 D (.lst [])) s3.heap.objs.size (cellsFrom (s3.heap.objs.size + 1) scope.names (cloFrom X.env.cells scope.names [])) [it]
  have pe := he s3 (upd H1 D (.lst [])) s3.heap.objs.size (cellsFrom (s3.heap.objs.size + 1) scope.names (cloFrom X.env.cells scope.names [])) [it]
  show codeAny _ _ (.compStart (.ListComp elt [⟨tg, iter, ifs, 0⟩] scope pos) 0 (.ref it) (.ref D) (compEnvC scope (cellsFrom (s3.heap.objs.size + 1) scope.names (cloFrom X.env.cells scope.names [])) s3.heap.objs.size X.env)) (compPost (model X.prog X.w) X.A X.xe none _ (.ref D) s3.heap.objs.size) { s3 with heap := pushCells (s3.heap.push { cls := .type "dict", data := .dict #[] }) scope.names }
  generalize hce : compEnvC scope (cellsFrom (s3.heap.objs.size + 1) scope.names (cloFrom X.env.cells scope.names [])) s3.heap.objs.size X.env = ce at I4 pg pt pe ⊢
  have cL : ce.locals = s3.heap.objs.size := by subst hce; rfl
  have hot := hB ce
  generalize hH3 : upd H1 D (.lst []) = H3 at I3 I4 pg pt pe w0 nit f3 hot
  generalize hs4 : ({ s3 with heap := pushCells (s3.heap.push { cls := .type "dict", data := .dict #[] }) scope.names } : Shared) = s4 at I4 ⊢
  have st4 : s4.heap.IsListIter it a 0 := st3.at fun o e => by rw [← hs4]; exact pushCells_keeps _ _ _ _ (Heap.get?_push_of_some _ e)
  have stat : ∀ {σ' : L2.St} {H' : Hp} {s' : Shared}, Inv (X.blk s3 H3 scope ce [it]) [] σ' H' s' → H' it = none → FpOk (X.blk s3 H3 scope ce [it]) [] H' it := fun {σ' H' s'} I' hn =>
    ⟨hn, (I'.ok.exf it (List.mem_singleton.mpr rfl)).1, I'.ok.exfs it (List.mem_singleton.mpr rfl), .inl (List.mem_singleton.mpr rfl), fun x c e => (I'.ok.exf it (List.mem_singleton.mpr rfl)).2 x c e, fun p hp => absurd (show p ∈ ([] : List (Addr × Obj)) ++ [] from hp) (by simp)⟩
  have loop : codeAny (model X.prog X.w) X.A (.compLoop (.ListComp elt [⟨tg, iter, ifs, 0⟩] scope pos) 0 (.ref it) (.ref D) ce) (compPost (model X.prog X.w) X.A X.xe none (EP X pins σ Q) (.ref D) s3.heap.objs.size) s4 := by
    refine compLoop_any (fun n s' => ∃ i H', Inv (X.blk s3 H3 scope ce [it]) [] (wipe σ (own.map (·.2))) H' s' ∧ s'.heap.IsListIter it a i ∧ H' it = none ∧ W i n H') ?_ m0 ⟨0, H3, I4, st4, nit, w0⟩
    rintro n s5 ⟨i, H5, I5, st5, n5, w5⟩
    obtain ⟨f0, f1, f2, fa, f4, f5⟩ := stat I5 n5
    rcases turn i n H5 w5 with ⟨⟨ys, hy, hle⟩, qq⟩ | ⟨⟨ys, y, hy, hyi⟩, Nx, hNx, step⟩
    · obtain ⟨its5, rv5, p5, -⟩ := I5.list hy
      obtain ⟨x1, hot5, nx1⟩ := hot.now I5
      have hl5 := rv5.length
      refine list_end_hot hot5 (fun z => nx1 (List.mem_singleton.mpr z)) st5 p5.isList (by simp; omega) fun h' k => ?_
      have I6 : Inv (X.blk s3 H3 scope ce [it]) [] (wipe σ (own.map (·.2))) H5 { s5 with heap := h' } := I5.turned (t' := s5.toks) k f0 f1 fa f4 f5
      have I7 : Inv X pins σ H5 { s5 with heap := h' } := I3.call' (ch := [it]) I6.os I6.base I6.hok I6.bare fun b hb => ⟨(f3 b hb).1.2.2.2.1, (f3 b hb).1.2.1, (f3 b hb).1.2.2.2.2.1, (f3 b hb).1.2.2.2.2.2⟩
      have nC : H5 s3.heap.objs.size = none := by
        have z : H5 ce.locals = none := I6.free
        rw [cL] at z
        exact z
      obtain ⟨m, hn, _⟩ := I6.loc
      have hn : Heap.Ns h' ce.locals m := hn
      rw [cL] at hn
      refine ⟨m, hn, fun h'' sb => ?_⟩
      obtain ⟨c0, c1, c2, c3, c4, c5⟩ := I3.fpOk (Nat.le_refl _) nC
      exact ⟨.ref D, H5, I7.turned (t' := s5.toks) (fun b o hb e => (sb.2 b hb).trans e) c0 c1 c3 c4 c5, rfl, qq⟩
    · obtain ⟨its5, rv5, p5, -⟩ := I5.list hy
      obtain ⟨u, hu, ru⟩ := rv5.get hyi
      refine wpAny_pyNext_list_item st5 p5.isList (x := u) (by simpa using hu) fun h' st6 sb => ?_
      have I6 : Inv (X.blk s3 H3 scope ce [it]) [] (wipe σ (own.map (·.2))) H5 { s5 with heap := h' } := I5.turned (t' := s5.toks) (fun b o hb e => (sb.2 b hb).trans e) f0 f1 fa f4 f5
      obtain ⟨oi, ei, ci, di⟩ := id st6
      refine go_of (s := { s5 with heap := h' }) ei ci di (by decide) ?_
      have I6' := I6.pinned (fp := [it]) (fun b hb => by rw [List.mem_singleton.mp hb]; exact stat I6 n5) (fun b hb => by rw [List.mem_singleton.mp hb]; exact ⟨oi, ei, fun v z => by rw [di] at z; cases z⟩)
      refine thnF (pg.run _ { s5 with heap := h' } _ H5 y u _ I6' ru (step y H5 ⟨rfl, fun zs hz => by rw [I5.list_inj hz hy]; exact hyi⟩)) fun _ s8 ⟨σ8, H8, I8, hw8, q8⟩ => ?_
      refine thnF (pt.run _ s8 σ8 H8 _ I8 q8) fun b s9 ⟨H9, I9, q9⟩ => ?_
      have fin : ∀ {s' : Shared} {H' : Hp}, Inv (X.blk s3 H3 scope ce [it]) ([] ++ pinsAt [it] h') σ8 H' s' → Nx H' → ∃ m, m < n ∧ ∃ i H', Inv (X.blk s3 H3 scope ce [it]) [] (wipe σ (own.map (·.2))) H' s' ∧ s'.heap.IsListIter it a i ∧ H' it = none ∧ W i m H' := fun {s' H'} I' nx => by
        obtain ⟨m', hm, w'⟩ := hNx H' nx
        have z := I'.pin (it, oi) (List.mem_append_right _ (List.mem_append_right _ (mem_pinsAt (List.mem_singleton.mpr rfl) ei)))
        have hl : (wipe σ (own.map (·.2))).length = σ8.length := by rw [← hw8, wipe_length]
        refine ⟨m', hm, i + 1, H', (I'.unpinned (pins := [])).weak hl (fun j v e => ?_), ⟨oi, z.1, ci, di⟩, z.2.1, w'⟩
        rw [← hw8] at e
        exact (wipe_some e).1
      cases b with
      | false => exact fin I9 q9
      | true =>
        refine thnF (pe.run _ s9 σ8 H9 _ I9 q9) fun z s10 ⟨yv, H10, I10, r10, acc, hD10, hz10, nx⟩ => ?_
        exact app_ok (X := X.blk s3 H3 scope ce [it]) I10 hD10 hz10 r10 fun s11 I11 => fin I11 nx
  exact codeAny_compStart_list loop (wpAny_pyIter_listiter st4 loop)
end
end FR

/-! An own error with an own __init__, its context known; what may be asked of it while it is handled. -/
namespace FR
open PySem PySem.Spec PyProof.Rows L2 L2H HotX
section
variable {X : Cx} {CX : CXT} {x : Str} {C fI : Addr} {k : Nat} {fd : FuncData} {ps : List Str} {sp : Sp} {e : Expr} {es : List Expr} {ta : TA} {p pos : Pos}
/-- X(v), as an error whose context is None -/
theorem mk_oexN (T : OexC X.K C) (iC : PySem.W.findIn X.K (.ref C) "__init__" = some (some (.ref fI))) (tI : PySem.W.typeIn X.K (.ref fI) = some (.type "function"))
    (F1 : FnOk X.prog X.w X.K X.mg X.base CX k fI fd ps sp) (hr : L2.Room (k + 1) X.A) (hb : Binds X.K fd ps []) (hx : Passes CX X (fun _ _ _ => False)) (hg : Gl X x) (hm : X.mg x = some (.ref C)) (ha : PA X (e :: es) ta)
    (hdb : (x == ("__debug__" : Str)) = false := by decide) (he : starEach (e :: es) X.env = (false, eval e X.env) :: starEach es X.env := by rfl) (hpl : (backTo pos (starEach es X.env)).any (·.1) = false := by rfl) :
    L2N.PMk X (.Call (.Name x p) (e :: es) [] pos) (tMkO C sp [] ta) := by
  intro pins s σ H Q I h
  obtain ⟨nm, q, N, bs, bm, sn, sub, ab, col, dd, k0, k1, k2, k3, k5, hC, hbm⟩ := T.cls
  refine wpAny_Call_Name_kw (ld_glob I hg hm (PySem.W.callWith_K (h₀ := X.base) I.ok.mod.kin T.kC (thn (ha.run pos pins s σ H _ I h) fun us s1 hh => ?_) he hpl) hdb)
  obtain ⟨vs, H1, I1, r1, hz, hq1⟩ := hh
  refine ⟨I1.kIn, ?_⟩
  obtain ⟨hp, gg, dr, tk', os⟩ := s1
  have hsz : hp.objs.size ≤ hp.objs.size + 1 := Nat.le_succ _
  have hq := hq1 (hp.objs.size + 1) (I1.hok.fresh hsz)
  rw [List.append_nil] at hq
  have kk : ∀ b o, hp.get? b = some o → ((hp.push (PySem.W.kdv_tup us)).push (PySem.HandSPX.excO C hp.objs.size)).get? b = some o := fun b o e => Heap.get?_push_of_some _ (Heap.get?_push_of_some _ e)
  have hget : ((hp.push (PySem.W.kdv_tup us)).push (PySem.HandSPX.excO C hp.objs.size)).get? (hp.objs.size + 1) = some (PySem.HandSPX.excO C hp.objs.size) := by heap_get
  have I2 : Inv X pins σ (upd H1 (hp.objs.size + 1) (exo (hp.objs.size + 1) C none)) ⟨(hp.push (PySem.W.kdv_tup us)).push (PySem.HandSPX.excO C hp.objs.size), gg, dr, tk', os⟩ :=
    I1.laid (t' := tk') (a := hp.objs.size + 1) (o := exo (hp.objs.size + 1) C none) kk hsz (exo_ok hget)
  have r2 : Vals (V.ref (hp.objs.size + 1) :: vs) (Value.ref (hp.objs.size + 1) :: us) := .cons rfl r1
  have hl : (Value.ref (hp.objs.size + 1) :: us ++ []).length = ps.length := by
    have z := F1.len _ _ _ _ hq
    rw [List.append_nil, ← r2.length]
    exact z
  have hus : us.length ≤ sizeLine := by
    have z := Paired.length r1
    rw [← z, sizeLine_eq]
    omega
  have b2 := hb _ (Value.ref (hp.objs.size + 1) :: us) I2.kIn hl
  rw [List.append_nil] at b2
  have run := F1.run _ X.stack _ _ ⟨Value.ref (hp.objs.size + 1) :: us, []⟩ (Value.ref (hp.objs.size + 1) :: us) _ _ (fun _ _ _ => False) (hr.make C us []) (I2.env0.make C us []) b2 r2 hq
  show wpAny _ _ (call (.ref C) us) _ _ _
  refine wpAny_call (PySem.HandSPX.call_own F.excBase_ValueError (fun Y => PySem.HandSPX.refsVE_contains Y bm hbm) (I1.kIn _ _ hC) (PySem.W.looks_findIn I1.kIn iC) (fun self => PySem.W.bind_fn I1.kIn self tI) hus (codeAny_mono run fun r s' hq' => ?_))
  rcases r with er | fl
  · exact hx pins σ _ _ er s' I2 hq'
  · cases fl with
    | next => exact False.elim hq'
    | brk => exact False.elim hq'
    | cont => exact False.elim hq'
    | ret u =>
      obtain ⟨v, H2, os2, bare2, un2, hok2, rv, rfl, d, fs, ea, ed, hd1, q2⟩ := hq'
      obtain ⟨h2, g2, d2, t2, os'⟩ := s'
      obtain ⟨t0, G, J, kG, ge, hoe, na⟩ := mk_end0 (d2 := d2) (t2 := t2) I1 hsz kk un2 hok2 os2 bare2 ea ed hd1
      exact ⟨rv, hp.objs.size + 1, _, _, ⟨G, g2, d2, t2, os'⟩, _, .ref C, some d, rfl, J, kG, ge, hoe, ⟨rfl, rfl, fun vs hv => by cases hv; rfl⟩, rfl, rfl, na, rfl, bare2, raises_own T.exC T.tyC, q2⟩
end
/-- p is the error that stands in every state of X, of the class C, its fields at dd -/
structure ErrIn (X : Cx) (p : Addr × Obj) (C dd : Addr) : Prop where
  mem : p ∈ X.pn
  cl : p.2.cls = .ref C
  di : p.2.dict = some dd
  da : ∃ vs, p.2.data = .fields vs
theorem ErrIn.inst {X : Cx} {p : Addr × Obj} {C dd : Addr} {pins : List (Addr × Obj)} {σ : L2.St} {H : Hp} {s : Shared} {fs : List (Str × V)} (h : ErrIn X p C dd) (I : Inv X pins σ H s) (e : H dd = some (.xd fs)) :
    ∃ od, PySem.W.InstAt s.heap p.1 p.2 C (some od) ∧ ∀ (n : Str) (v : V), fs.lookup n = some v → ∃ u : Value, PySem.W.lookIn n od = some (some u) ∧ L2.RelV v u := by
  obtain ⟨vs, hd⟩ := h.da
  obtain ⟨mA, hns, hr⟩ := (I.hok dd _ e : ObjOk X.prog X.w H s.heap dd (.xd fs))
  obtain ⟨od, ho, hl⟩ := lookIn_ns hns
  refine ⟨od, ⟨(I.pin p (List.mem_append_left _ h.mem)).1, h.cl, by unfold PySem.W.notCls; rw [hd] <;> rfl, by rw [h.di]; exact ho⟩, fun n v l => ?_⟩
  obtain ⟨u, hu, ru⟩ := RelO.some_of (v := v) (o := mA n) (by rw [← l]; exact hr n)
  exact ⟨u, by rw [hl, hu], ru⟩
/-- isinstance(e, c) of that error -/
def rIsX (K : PySem.W.Frag) (C dd a : Addr) : List V → Hp → VK → Prop := fun xs H Q => ∃ (c : V) (cv : Value) (b : Bool) (fs : List (Str × V)), xs = [.ref a, c] ∧ (∀ u : Value, L2.RelV c u → u = cv) ∧ PySem.W.kitOne K (.ref C) cv = some b ∧ H dd = some (.xd fs) ∧ Q (.bl b) H
theorem call_isX {X : Cx} {p : Addr × Obj} {C dd : Addr} (T : ExcC X.K C) (h : ErrIn X p C dd) : CallR X (.builtin "isinstance") (rIsX X.K C dd p.1) := by
  intro pins s σ H xs us Q I r hh
  obtain ⟨c, cv, b, fs, rfl, hcv, e, hd, q⟩ := hh
  cases r with
  | cons rx rr => cases rr with
    | cons rt rr =>
      cases rr
      cases rx
      cases hcv _ rt
      obtain ⟨od, J, -⟩ := h.inst I hd
      have cl : (PySem.W.clsIn X.K C).isSome = true := by
        obtain ⟨cd, hc, _⟩ := PySem.W.any_some T.hd
        rw [hc]
        rfl
      exact PySem.W.kia_one (PySem.W.kitx_exc cl T.hg T.hk T.hs T.ha T.hn T.ht T.hm) I.kIn J e (fun z => nomatch z) fun tk => ⟨.bl b, H, I.kept (t' := tk) fun _ _ z => z, rfl, q⟩
/-- e.f of that error -/
def tFX (a C dd : Addr) (n : Str) (te : TE) : TE := fun σ H Q => te σ H fun x H1 => x = .ref a ∧ ∃ (fs : List (Str × V)) (v : V), H1 dd = some (.xd fs) ∧ fs.lookup n = some v ∧ Q v H1
theorem pe_fX {X : Cx} {p : Addr × Obj} {C dd : Addr} {e : Expr} {te : TE} {pos : Pos} {n : Str} (T : XfC X.K C) (hno : PySem.W.findIn X.K (.ref C) n = some none) (h : ErrIn X p C dd) (he : PE X e te) (hb : attributeBase e n X.env (eval e X.env) = eval e X.env := by rfl) :
    PE X (.Attribute e n pos) (tFX p.1 C dd n te) := by
  constructor
  intro pins s σ H Q I hh
  refine attr_of hb (thn (he.run pins s σ H _ I hh) fun u s1 hv => ?_)
  obtain ⟨x, H1, I1, rx, rfl, fs, v, hd, l, q⟩ := hv
  obtain rfl : u = Value.ref p.1 := rx
  obtain ⟨od, J, lk⟩ := h.inst I1 hd
  obtain ⟨u, hu, ru⟩ := lk n v l
  exact HandSPX.exc_get I1.kIn J T.ga T.gg T.exC (PySem.W.findObj_own T.hdC hno rfl hu) (handed_of ru) ⟨v, H1, I1.tok _, ru, q⟩
end FR

/-! A def that is called while an error is handled, and is handed that error. -/
namespace FR
open PySem PySem.Spec PyProof.Rows L2 L2H HotX
/-- a promise that may speak of the error -/
abbrev SpP := Addr → Value → Option Addr → Sp
structure FnP (P : Program) (w : World) (K : PySem.W.Frag) (mg : Str → Option Value) (base : Heap) (k : Nat) (f : Addr) (fd : FuncData) (ps : List Str) (sp : SpP) : Prop where
  len : ∀ a cls d vs H Q E, sp a cls d vs H Q E → vs.length = ps.length
  run : ∀ (A : Around) (outer : List Env) (s : Shared) (H : Hp) (args : Args) (us : List Value) (vs : List V) (Q : VK) (E : XK) (p : Addr × Obj) (cls : Value) (d : Option Addr), Zc cls d p.2 → (∃ vs, p.2.data = .fields vs) → RoomH k A → Hot1 A p → PinOk outer H s p → Env0 P w K mg base A outer s H → BindsTo s fd args (ps.zip us) → Vals vs us → sp p.1 cls d vs H Q E →
    codeAny (model P w) A (.call (.ref f) args) (CR CX0 outer P w H s Q E) s
section
variable {P : Program} {w : World} {K : PySem.W.Frag} {mg : Str → Option Value} {base : Heap}
theorem Fun.okN {x qual : Str} {st : Stmt} {f : Addr} {fd : FuncData} {N ps : List Str} {k : Nat} {sp : Sp} (F : Fun K x qual st f fd) (S : FnScope N ps (defScope st)) (len : ∀ vs H Q E, sp vs H Q E → vs.length = ps.length)
    (hbody : ∀ (cdv : Value) (A : Around) (outer : List Env) (s : Shared) (H : Hp) (vs : List V) (Q : VK) (E : XK), Room k (A.deeper (envOfC qual (defScope st) s.heap.objs.size f cdv)) → sp vs H Q E →
      ∃ t, PSs (cxOf (L2N.CX P w) P w K mg base N qual (defScope st) f cdv A outer s H E) (defBody st) t ∧ t { nx := fun _ H' => Q .non H', rt := Q } (L2.start N vs) H) : FnOk P w K mg base (L2N.CX P w) (k + 1) f fd ps sp := by
  obtain ⟨oc, od, kV, doc, pm, an, cdv, ct, osl, rfl, lk, hcd⟩ := F.ex
  exact fn_of lk hcd S len fun A outer s H vs Q E hr hsp => hbody cdv A outer s H vs Q E hr hsp
theorem Fun.okP {x qual : Str} {st : Stmt} {f : Addr} {fd : FuncData} {N ps : List Str} {k : Nat} {sp : SpP} (F : Fun K x qual st f fd) (S : FnScope N ps (defScope st)) (len : ∀ a cls d vs H Q E, sp a cls d vs H Q E → vs.length = ps.length)
    (hbody : ∀ (cdv : Value) (A : Around) (outer : List Env) (s : Shared) (H : Hp) (vs : List V) (Q : VK) (E : XK) (p : Addr × Obj) (cls : Value) (d : Option Addr), Zc cls d p.2 → (∃ vs, p.2.data = .fields vs) → Hot1 A p → RoomH k (A.deeper (envOfC qual (defScope st) s.heap.objs.size f cdv)) → sp p.1 cls d vs H Q E →
      ∃ t, PSs (cxH CX0 P w K mg base N qual (defScope st) f cdv A outer s H E p) (defBody st) t ∧ t { nx := fun _ H' => Q .non H', rt := Q } (L2.start N vs) H) : FnP P w K mg base (k + 1) f fd ps sp := by
  obtain ⟨oc, od, kV, doc, pm, an, cdv, ct, osl, rfl, lk, hcd⟩ := F.ex
  constructor
  · exact len
  intro A outer s H args us vs Q E p cls d hz hf hr hot hpin e0 hb r hsp
  have hl := len _ _ _ _ _ _ _ hsp
  have kin : K.In s.heap := e0.mod.kin.keeps fun b o e => (e0.bs b o e).1
  have hkind : ∀ y ∈ ps.zip us, (defScope st).names.lookup y.1 = some .local ∨ ((defScope st).names.lookup y.1 = some .cell ∧ ((cellsFrom (s.heap.objs.size + 1) (defScope st).names []).lookup y.1).isSome = true) := by
    rintro ⟨n, v⟩ hy
    exact (S.par n (List.of_mem_zip hy).1).imp id fun q => ⟨q, PySem.W.cellsFrom_some _ _ _ (.inl q)⟩
  refine codeAny_call_function hr.depth (kin _ _ lk) rfl S.co S.gen rfl (PySem.W.codeRec_of kin hcd) (hb _ _ _ _ (wpAny_newFunctionEnv_cells S.kind hkind ?_))
  rintro env rfl s1 x
  refine ⟨(e0.mod.nolimit.keeps fun b o e => (e0.bs b o e).1).keeps x.toInCall.keep, codeAny_func ?_⟩
  obtain ⟨t, ht, hq⟩ := hbody cdv A outer s H vs Q E p cls d hz hf hot (hr.deeper _) hsp
  have I := inv_startH (CX := CX0) (E := E) (w := w) S hpin e0 hl r x
  refine wpAny_mono (ht.run [] s1 (L2.start N vs) H _ I hq) (fun fl s' hs => ?_) fun e s' hs => hs
  cases fl with
  | brk =>
    obtain ⟨_, _, _, z⟩ := hs
    exact z.elim
  | cont =>
    obtain ⟨_, _, _, z⟩ := hs
    exact z.elim
  | ret u =>
    obtain ⟨v, σ', H', J, rv, q⟩ := hs
    exact ⟨v, H', J.os, J.bare, J.base, J.hok, rv, q⟩
  | next =>
    obtain ⟨σ', H', J, q⟩ := hs
    exact ⟨.non, H', J.os, J.bare, J.base, J.hok, rfl, q⟩
end
section
variable {X : Cx} {k : Nat} {f : Addr} {fd : FuncData} {ps : List Str} {sp : SpP} {x : Str} {q pos : Pos} {e : Expr} {es : List Expr} {t : TA}
theorem pe_callP {a : Addr} {oe : Obj} {cls : Value} {d : Option Addr} (F : FnP X.prog X.w X.K X.mg X.base k f fd ps sp) (hz : Zc cls d oe) (hf : ∃ vs, oe.data = .fields vs) (hr : RoomH k X.A) (hot : Hot1 X.A (a, oe)) (hp : (a, oe) ∈ X.pn) (hg : Gl X x) (hm : X.mg x = some (.ref f)) (hk : PySem.W.keepIn X.K (.ref f) = true) (hb : Binds X.K fd ps [])
    (ha : PA X (e :: es) t) (hdb : (x == ("__debug__" : Str)) = false := by decide) (he : starEach (e :: es) X.env = (false, eval e X.env) :: starEach es X.env := by rfl) (hpl : (backTo pos (starEach es X.env)).any (·.1) = false := by rfl) :
    PE X (.Call (.Name x q) (e :: es) [] pos) (tCallS (sp a cls d) (fun _ => E0) t) := by
  constructor
  intro pins s σ H Q I h
  refine wpAny_Call_Name_kw (ld_glob I hg hm (PySem.W.callWith_K (h₀ := X.base) I.ok.mod.kin hk (thn (ha.run pos pins s σ H _ I h) fun us s1 hv => ?_) he hpl) hdb)
  obtain ⟨vs, H1, I1, r, hsp⟩ := hv
  refine ⟨I1.kIn, ?_⟩
  have hl : us.length = ps.length := by
    rw [← r.length]
    exact F.len _ _ _ _ _ _ _ hsp
  have b := hb s1 us I1.kIn (by rw [List.append_nil]; exact hl)
  rw [List.append_nil] at b
  have P1 := I1.pin (a, oe) (List.mem_append_left _ hp)
  have hpin : PinOk X.stack H1 s1 (a, oe) := ⟨P1.1, P1.2.1, fun hm => (List.mem_cons.mp (I1.stkSub a hm)).elim P1.2.2.1 P1.2.2.2.1, P1.2.2.2.2⟩
  refine wpAny_call (codeAny_mono (F.run X.A X.stack s1 H1 ⟨us, []⟩ us vs Q E0 (a, oe) cls d hz hf hr hot hpin I1.env0 b r hsp) fun r s' hq => ?_)
  rcases r with er | fl
  · exact hq.elim
  · cases fl with
    | ret u => exact I1.after hq
    | next => exact False.elim hq
    | brk => exact False.elim hq
    | cont => exact False.elim hq
end
end FR

namespace FR
open PySem PySem.Spec PyProof.Rows L2 SrtO
/-- look: nothing of a good deed, else the mark in an error -/
def spLookX (C : Addr) : Sp := fun vs H Q E => ∃ (p : Addr) (many : Nat) (a : Act), vs = [.int many, .ref p] ∧ ActAt H p a ∧ 1 ≤ many ∧ IntOk a.who ∧ IntOk a.num ∧ (a.good many → ∀ H', Same H H' → Q .non H') ∧
  (¬ a.good many → ∀ (d m : Addr) (H' : Hp), Same H H' → H d = none → H m = none → H' m = some (.tup [.int a.who, .int a.num]) → H' d = some (.xd [("what", .ref m)]) → E (.ref C) (some d) H')
section
variable {P : Program} {w : World} {K : PySem.W.Frag} {mg : Str → Option Value} {base : Heap}
theorem ok_lookX {f fM fN fG fK C fI : Addr} {fd fdM fdN fdG fdK fdI : FuncData} {k : Nat} (F : Fun K "look" "look" sLook f fd) (M : Cal P w K mg base k "_has_mark" ["members", "deed"] spHasMark fM fdM) (N : Cal P w K mg base k "_has_note" ["members", "deed"] spHasNote fN fdN) (G : Cal P w K mg base k "_goes_down" ["members", "deed"] spDown fG fdG)
    (Mk : Cal P w K mg base k "mark" ["deed"] spMark fK fdK) {j : Nat} (hj : j + 1 ≤ k) (Er : ErrC P w K mg base j "NoDeed" C fI fdI) : FnOk P w K mg base (L2N.CX P w) (k + 1) f fd ["members", "deed"] (spLookX C) := by
  refine Fun.okN F scLook (fun vs H Q E h => ?_) (fun cdv A outer s H vs Q E hr h => ?_)
  · obtain ⟨p, many, a, rfl, _⟩ := h
    rfl
  obtain ⟨p, many, a, rfl, ha, b1, i1, i2, good, bad⟩ := h
  refine ⟨_, pss_one (ps_if (pt_not (PW.pt (pw_and (pt_val (pe_call M.ok hr (by rfl) M.m M.kp M.b .nil pass0 (pa_cons (pv 0) (pa_cons (pv 1) pa_nil)))) (pw_and (pt_val (pe_call N.ok hr (by rfl) N.m N.kp N.b .nil pass0 (pa_cons (pv 0) (pa_cons (pv 1) pa_nil))))
    (pw_and1 (pt_val (pe_call G.ok hr (by rfl) G.m G.kp G.b .nil pass0 (pa_cons (pv 0) (pa_cons (pv 1) pa_nil)))))))))
    (pss_one (L2N.ps_raise rfl (L2N.takes_of rfl rfl rfl rfl) (mk_oexN (CX := CX0) Er.ow Er.iC Er.tI Er.ok (hr.mono hj) Er.b (fun _ _ _ _ _ _ _ h => h.elim) (by rfl) Er.m (pa_cons (pe_call Mk.ok hr (by rfl) Mk.m Mk.kp Mk.b .nil pass0 (pa_cons (pv 1) pa_nil)) pa_nil)))) pss_nil), ?_⟩
  -- what is raised
  have out : ¬ a.good many → ∀ H1, Same H H1 → spMark ([.ref p] ++ []) H1 (fun v H2 => ([v] : List V).length ≤ 1000 ∧ ∀ c, H2 c = none → spInit K C (.ref c :: ([v] ++ [])) (upd H2 c (exo c C none)) (fun v' H3 => v' = .non ∧ ∃ (d : Addr) (fs : List (Str × V)), H3 c = some (exo c C (some d)) ∧ H3 d = some (exd d fs) ∧ H2 d = none ∧ E (.ref C) (some d) (upd (del H3 c) d (.xd fs))) (fun _ _ _ => False)) E0 := by
    intro hb H1 s1
    refine ⟨p, a, rfl, ha.keep (S := []) (.of s1), fun q H2 s2 nq eq => ⟨(by show 1 ≤ 1000; decide), made_err (.inr (.inr ⟨q, [a.who, a.num], rfl, sqT eq, (by show 2 ≤ 10; decide), fun i m => ?_⟩)) fun d H3 s3 nd ed => ?_⟩⟩
    · simp only [List.mem_cons, List.not_mem_nil, or_false] at m
      rcases m with rfl | rfl
      · exact i1
      · exact i2
    · exact bad hb d q H3 ((s1.trans s2).trans s3) ((s1.trans s2).free nd) (s1.free nq) (s3 _ _ eq) ed
  refine ⟨_, rfl, _, rfl, p, many, a, rfl, ha, fun H1 s1 => ⟨_, rfl, ?_⟩⟩
  have ha1 := ha.keep (S := []) (.of s1)
  cases g1 : a.markOk many with
  | false =>
    refine iteF (iteT ⟨_, rfl, out (fun z => ?_) H1 s1⟩)
    rw [z.1] at g1
    cases g1
  | true =>
    have g1' := g1
    unfold Act.markOk at g1'
    simp only [Bool.and_eq_true, decide_eq_true_eq] at g1'
    refine iteT ⟨_, rfl, _, rfl, p, many, a, rfl, ha1, b1, g1'.1.1, g1'.1.2, _, rfl, ?_⟩
    cases g2 : a.noteOk many with
    | false =>
      refine iteF (iteT ⟨_, rfl, out (fun z => ?_) H1 s1⟩)
      rw [z.2.1] at g2
      cases g2
    | true =>
      refine iteT ⟨_, rfl, _, rfl, p, many, a, rfl, ha1, _, rfl, ?_⟩
      cases g3 : a.what.downOk a.who many with
      | false =>
        refine iteT ⟨_, rfl, out (fun z => ?_) H1 s1⟩
        rw [z.2.2] at g3
        cases g3
      | true => exact iteF (good ⟨g1, g2, g3⟩ H1 s1)
end
end FR

namespace FR
open PySem PySem.Spec PyProof.Rows L2 L2H SrtO
abbrev sKind : Stmt := top 24
/-- the error classes at their names, in the order in which the law asks for them -/
structure Eight (mg : Str → Option Value) (c : Nat → Addr) : Prop where
  m0 : mg "NoDeed" = some (.ref (c 0))
  m1 : mg "NoKind" = some (.ref (c 1))
  m2 : mg "NoMark" = some (.ref (c 2))
  m3 : mg "NoMember" = some (.ref (c 3))
  m4 : mg "NoMembers" = some (.ref (c 4))
  m5 : mg "NoText" = some (.ref (c 5))
  m6 : mg "NoUse" = some (.ref (c 6))
  m7 : mg "TwoFaced" = some (.ref (c 7))
  ve : mg "ValueError" = none
def eightNames : List Str := ["NoDeed", "NoKind", "NoMark", "NoMember", "NoMembers", "NoText", "NoUse", "TwoFaced"]
/-- the class of an error that may be caught: what it is of the eight -/
structure IsOf (K : PySem.W.Frag) (c : Nat → Addr) (C : Addr) (bs : Nat → Bool) : Prop where
  ex : ExcC K C
  xf : XfC K C
  nw : PySem.W.findIn K (.ref C) "what" = some none
  k : ∀ i, i < 8 → PySem.W.kitOne K (.ref C) (.ref (c i)) = some (bs i)
  ve : PySem.W.kitOne K (.ref C) (.type "ValueError") = some true
def toldNames (bs : Nat → Bool) : List Str := (List.range 8).filterMap fun i => if bs i = true then eightNames[i]? else none
def spKind (K : PySem.W.Frag) (c : Nat → Addr) : SpP := fun a cls d vs H Q _ => ∃ (C dd : Addr) (fs : List (Str × V)) (v : V) (bs : Nat → Bool), vs = [.ref a] ∧ cls = .ref C ∧ d = some dd ∧ H dd = some (.xd fs) ∧ fs.lookup ("what" : Str) = some v ∧ IsOf K c C bs ∧
  ∀ (a : Addr) (H' : Hp), Same H H' → H a = none → H' a = some (.lst ((toldNames bs).map V.str ++ [v, .bl true])) → Q (.ref a) H'

theorem pairRd {K : PySem.W.Frag} {a C dd ci : Addr} {fs : List (Str × V)} {nm : Str} {b : Bool} {σ : L2.St} {H1 : Hp} {Q : VK} (h0 : σ[0]? = some (some (V.ref a))) (hd : H1 dd = some (.xd fs)) (k : PySem.W.kitOne K (.ref C) (.ref ci) = some b)
    (h : ∀ q H2, Same H1 H2 → H1 q = none → H2 q = some (.tup [.str nm, .bl b]) → Q (.ref q) H2) :
    tTup (tCons (tC (.str nm)) (tCons (tCB (rIsX K C dd a) (tCons (tVar 0) (tCons (tC (.ref ci)) tNil))) tNil)) σ H1 Q := by
  refine ⟨_, h0, _, _, b, fs, rfl, fun u e => e, k, hd, ?_, fun q nq => h q _ (same_new nq) nq upd_same⟩
  show 2 ≤ sizeLine
  rw [sizeLine_eq]
  omega
/-- the pairs of a list, by what they say -/
inductive PairsAt (H : Hp) : List V → List (Str × Bool) → Prop
  | nil : PairsAt H [] []
  | cons {q : Addr} {n : Str} {b : Bool} {vs : List V} {r : List (Str × Bool)} (e : H q = some (.tup [.str n, .bl b])) (t : PairsAt H vs r) : PairsAt H (.ref q :: vs) ((n, b) :: r)
theorem PairsAt.same {H H' : Hp} (s : Same H H') {vs : List V} {r : List (Str × Bool)} (h : PairsAt H vs r) : PairsAt H' vs r := by
  induction h with
  | nil => exact .nil
  | cons e t ih => exact .cons (s _ _ e) ih
theorem PairsAt.app {H : Hp} {vs ws : List V} {r t : List (Str × Bool)} (h : PairsAt H vs r) (h2 : PairsAt H ws t) : PairsAt H (vs ++ ws) (r ++ t) := by
  induction h with
  | nil => exact h2
  | cons e _ ih => exact .cons e ih
theorem PairsAt.get {H : Hp} {vs : List V} {r : List (Str × Bool)} (h : PairsAt H vs r) {i : Nat} {v : V} (hv : vs[i]? = some v) : ∃ q n b, v = .ref q ∧ r[i]? = some (n, b) ∧ H q = some (.tup [.str n, .bl b]) := by
  induction h generalizing i with
  | nil => cases hv
  | cons e t ih => cases i with
    | zero =>
      cases hv
      exact ⟨_, _, _, rfl, rfl, e⟩
    | succ i => exact ih hv
theorem PairsAt.upd {H : Hp} {l : Addr} {ys zs : List V} {vs : List V} {r : List (Str × Bool)} (h : PairsAt H vs r) (hl : H l = some (.lst ys)) : PairsAt (upd H l (.lst zs)) vs r := by
  induction h with
  | nil => exact .nil
  | cons e t ih =>
    refine .cons ?_ ih
    rw [upd_ne (fun z => by rw [z, hl] at e; cases e)]
    exact e
theorem PairsAt.len {H : Hp} {vs : List V} {r : List (Str × Bool)} (h : PairsAt H vs r) : vs.length = r.length := by
  induction h with
  | nil => rfl
  | cons _ _ ih => rw [List.length_cons, List.length_cons, ih]
section
variable {P : Program} {w : World} {K : PySem.W.Frag} {mg : Str → Option Value} {base : Heap}
abbrev nKind : List Str := ["e", "some", "word", "so"]
theorem scKind : FnScope nKind ["e"] (defScope sKind) := ⟨rfl, rfl, rfl, by decide +kernel, rfl, by decide +kernel, by decide +kernel⟩
theorem ok_kind {c : Nat → Addr} {f : Addr} {fd : FuncData} {k : Nat} (F : Fun K "_law_kind" "_law_kind" sKind f fd) (B : Blt mg) (G : Eight mg c) : FnP P w K mg base (k + 1) f fd ["e"] (spKind K c) := by
  refine Fun.okP F scKind (fun a cls d vs H Q E h => ?_) (fun cdv A outer s H vs Q E p cls d hz hf hot hr h => ?_)
  · obtain ⟨C, dd, fs, v, bs, rfl, _⟩ := h
    rfl
  obtain ⟨C, dd, fs, v, bs, rfl, rfl, rfl, hd, hl, I, out⟩ := h
  have EI : ErrIn (cxH CX0 P w K mg base nKind "_law_kind" (defScope sKind) f cdv A outer s H E p) p C dd := ⟨List.mem_singleton.mpr rfl, hz.1, hz.2, hf⟩
  have HC : HotC (cxH CX0 P w K mg base nKind "_law_kind" (defScope sKind) f cdv A outer s H E p) := ⟨p, hot, List.mem_singleton.mpr rfl⟩
  refine ⟨_, (pss_cons (ps_set (i := 1) scKind.nd rfl (.inl rfl) (pe_lst (pa_cons (pe_tup (pa_cons pe_str (pa_cons (pe_callB (call_isX I.ex EI) (by rfl) B.isi (by decide +kernel) (pa_cons (pv 0) (pa_cons (pe_glob (v := .ref (c 0)) (by rfl) G.m0 rfl) pa_nil))) pa_nil))) (pa_cons (pe_tup (pa_cons pe_str (pa_cons (pe_callB (call_isX I.ex EI) (by rfl) B.isi (by decide +kernel) (pa_cons (pv 0) (pa_cons (pe_glob (v := .ref (c 1)) (by rfl) G.m1 rfl) pa_nil))) pa_nil))) pa_nil))))
    (pss_cons (ps_set (i := 1) scKind.nd rfl (.inl rfl) (pe_op op_cat (pv 1) (pe_lst (pa_cons (pe_tup (pa_cons pe_str (pa_cons (pe_callB (call_isX I.ex EI) (by rfl) B.isi (by decide +kernel) (pa_cons (pv 0) (pa_cons (pe_glob (v := .ref (c 2)) (by rfl) G.m2 rfl) pa_nil))) pa_nil))) pa_nil))))
    (pss_cons (ps_set (i := 1) scKind.nd rfl (.inl rfl) (pe_op op_cat (pv 1) (pe_lst (pa_cons (pe_tup (pa_cons pe_str (pa_cons (pe_callB (call_isX I.ex EI) (by rfl) B.isi (by decide +kernel) (pa_cons (pv 0) (pa_cons (pe_glob (v := .ref (c 3)) (by rfl) G.m3 rfl) pa_nil))) pa_nil))) (pa_cons (pe_tup (pa_cons pe_str (pa_cons (pe_callB (call_isX I.ex EI) (by rfl) B.isi (by decide +kernel) (pa_cons (pv 0) (pa_cons (pe_glob (v := .ref (c 4)) (by rfl) G.m4 rfl) pa_nil))) pa_nil))) pa_nil)))))
    (pss_cons (ps_set (i := 1) scKind.nd rfl (.inl rfl) (pe_op op_cat (pv 1) (pe_lst (pa_cons (pe_tup (pa_cons pe_str (pa_cons (pe_callB (call_isX I.ex EI) (by rfl) B.isi (by decide +kernel) (pa_cons (pv 0) (pa_cons (pe_glob (v := .ref (c 5)) (by rfl) G.m5 rfl) pa_nil))) pa_nil))) (pa_cons (pe_tup (pa_cons pe_str (pa_cons (pe_callB (call_isX I.ex EI) (by rfl) B.isi (by decide +kernel) (pa_cons (pv 0) (pa_cons (pe_glob (v := .ref (c 6)) (by rfl) G.m6 rfl) pa_nil))) pa_nil))) pa_nil)))))
    (pss_cons (ps_expr (pe_bm PySem.F.plainAttrs_list PySem.F.slot_list_append PySem.F.type_list_append mt_append (pv 1) (pa_cons (pe_tup (pa_cons pe_str (pa_cons (pe_callB (call_isX I.ex EI) (by rfl) B.isi (by decide +kernel) (pa_cons (pv 0) (pa_cons (pe_glob (v := .ref (c 7)) (by rfl) G.m7 rfl) pa_nil))) pa_nil))) pa_nil)))
    (pss_one (ps_ret (pe_op op_cat (pe_lcH (own := [("word", 2), ("so", 3)]) (g := gTup K 2 (gCons (gName 2) (gCons (gName 3) gNil))) HC scKind.nd (pv 1) (blkOk_by (N := nKind) (sc := defScope sKind) (by decide +kernel)) (fun _ _ _ _ _ hb => pg_tupB hb (pgs_cons (pg_name (i := 2) scKind.nd rfl (.inl rfl)) (pgs_cons (pg_name (i := 3) scKind.nd rfl (.inl rfl)) pgs_nil))) (fun _ _ _ _ _ => pts_one (pt_val (pv 3))) (fun _ _ _ _ _ => pv 2)) (pe_lst (pa_cons (pe_fX I.xf I.nw EI (pv 0)) (pa_cons (pe_callB (call_isX I.ex EI) (by rfl) B.isi (by decide +kernel) (pa_cons (pv 0) (pa_cons (pe_bltn (v := .ty "ValueError") (u := .type "ValueError") (by rfl) G.ve (by decide +kernel) rfl) pa_nil))) pa_nil))))))))))), ?_⟩
  have nm1000 : ∀ n : Nat, n ≤ 1000 → n ≤ sizeLine := fun n h => by rw [sizeLine_eq]; omega
  unfold tSeq tAsg tLst
  show tTup _ _ H _
  refine pairRd rfl hd (I.k 0 (by decide)) fun q0 H0 s0 n0 e0 => ?_
  refine pairRd rfl (s0 _ _ hd) (I.k 1 (by decide)) fun q1 H1 s1 n1 e1 => ?_
  refine ⟨nm1000 2 (by decide), fun l1 nl1 => ?_⟩
  have P1 : PairsAt H1 [.ref q0, .ref q1] [("NoDeed", bs 0), ("NoKind", bs 1)] := .cons (s1 _ _ e0) (.cons e1 .nil)
  have t1 := (s0.trans s1).trans (same_new (o := .lst [.ref q0, .ref q1]) nl1)
  have P1' := P1.same (same_new (o := .lst [.ref q0, .ref q1]) nl1)
  have g1 : (upd H1 l1 (.lst [.ref q0, .ref q1])) l1 = some (.lst [.ref q0, .ref q1]) := upd_same
  generalize upd H1 l1 (.lst [.ref q0, .ref q1]) = G1 at t1 P1' g1 ⊢
  refine ⟨_, rfl, ?_⟩
  show tTup _ _ G1 _
  refine pairRd rfl (t1 _ _ hd) (I.k 2 (by decide)) fun q2 H2 s2 n2 e2 => ?_
  refine ⟨nm1000 1 (by decide), fun m2 nm2 => ⟨l1, m2, _, _, rfl, rfl, (s2.trans (same_new nm2)) _ _ g1, upd_same, nm1000 3 (by decide), fun l2 nl2 => ?_⟩⟩
  have t2 := ((t1.trans s2).trans (same_new (o := .lst [.ref q2]) nm2)).trans (same_new (o := .lst [.ref q0, .ref q1, .ref q2]) nl2)
  have P2 := ((P1'.same s2).app (.cons e2 .nil)).same ((same_new (o := .lst [.ref q2]) nm2).trans (same_new (o := .lst [.ref q0, .ref q1, .ref q2]) nl2))
  have g2 : (upd (upd H2 m2 (.lst [.ref q2])) l2 (.lst [.ref q0, .ref q1, .ref q2])) l2 = some (.lst [.ref q0, .ref q1, .ref q2]) := upd_same
  show gName 1 _ _ (upd (upd H2 m2 (.lst [.ref q2])) l2 (.lst [.ref q0, .ref q1, .ref q2])) _
  generalize upd (upd H2 m2 (.lst [.ref q2])) l2 (.lst [.ref q0, .ref q1, .ref q2]) = G2 at t2 P2 g2 ⊢
  refine ⟨_, rfl, ?_⟩
  show tTup _ _ G2 _
  refine pairRd rfl (t2 _ _ hd) (I.k 3 (by decide)) fun q3 H3 s3 n3 e3 => ?_
  show tTup _ _ H3 _
  refine pairRd rfl (s3 _ _ (t2 _ _ hd)) (I.k 4 (by decide)) fun q4 H4 s4 n4 e4 => ?_
  refine ⟨nm1000 2 (by decide), fun m3 nm3 => ⟨l2, m3, _, _, rfl, rfl, ((s3.trans s4).trans (same_new nm3)) _ _ g2, upd_same, nm1000 5 (by decide), fun l3 nl3 => ?_⟩⟩
  have t3 := (((t2.trans s3).trans s4).trans (same_new (o := .lst [.ref q3, .ref q4]) nm3)).trans (same_new (o := .lst [.ref q0, .ref q1, .ref q2, .ref q3, .ref q4]) nl3)
  have P3 := (((P2.same s3).same s4).app (.cons (s4 _ _ e3) (.cons e4 .nil))).same ((same_new (o := .lst [.ref q3, .ref q4]) nm3).trans (same_new (o := .lst [.ref q0, .ref q1, .ref q2, .ref q3, .ref q4]) nl3))
  have g3 : (upd (upd H4 m3 (.lst [.ref q3, .ref q4])) l3 (.lst [.ref q0, .ref q1, .ref q2, .ref q3, .ref q4])) l3 = some (.lst [.ref q0, .ref q1, .ref q2, .ref q3, .ref q4]) := upd_same
  show gName 1 _ _ (upd (upd H4 m3 (.lst [.ref q3, .ref q4])) l3 (.lst [.ref q0, .ref q1, .ref q2, .ref q3, .ref q4])) _
  generalize upd (upd H4 m3 (.lst [.ref q3, .ref q4])) l3 (.lst [.ref q0, .ref q1, .ref q2, .ref q3, .ref q4]) = G3 at t3 P3 g3 ⊢
  refine ⟨_, rfl, ?_⟩
  show tTup _ _ G3 _
  refine pairRd rfl (t3 _ _ hd) (I.k 5 (by decide)) fun q5 H5 s5 n5 e5 => ?_
  show tTup _ _ H5 _
  refine pairRd rfl (s5 _ _ (t3 _ _ hd)) (I.k 6 (by decide)) fun q6 H6 s6 n6 e6 => ?_
  refine ⟨nm1000 2 (by decide), fun m4 nm4 => ⟨l3, m4, _, _, rfl, rfl, ((s5.trans s6).trans (same_new nm4)) _ _ g3, upd_same, nm1000 7 (by decide), fun l4 nl4 => ?_⟩⟩
  have t4 := ((t3.trans s5).trans s6).trans (same_new (o := .lst [.ref q5, .ref q6]) nm4)
  have P4 := (((P3.same s5).same s6).app (.cons (s6 _ _ e5) (.cons e6 .nil))).same (same_new (o := .lst [.ref q5, .ref q6]) nm4)
  have f4 : H l4 = none := t4.free nl4
  have t4' := t4.trans (same_new (o := .lst [.ref q0, .ref q1, .ref q2, .ref q3, .ref q4, .ref q5, .ref q6]) nl4)
  have P4' := P4.same (same_new (o := .lst [.ref q0, .ref q1, .ref q2, .ref q3, .ref q4, .ref q5, .ref q6]) nl4)
  have g4 : (upd (upd H6 m4 (.lst [.ref q5, .ref q6])) l4 (.lst [.ref q0, .ref q1, .ref q2, .ref q3, .ref q4, .ref q5, .ref q6])) l4 = some (.lst [.ref q0, .ref q1, .ref q2, .ref q3, .ref q4, .ref q5, .ref q6]) := upd_same
  show gName 1 _ _ (upd (upd H6 m4 (.lst [.ref q5, .ref q6])) l4 (.lst [.ref q0, .ref q1, .ref q2, .ref q3, .ref q4, .ref q5, .ref q6])) _
  generalize upd (upd H6 m4 (.lst [.ref q5, .ref q6])) l4 (.lst [.ref q0, .ref q1, .ref q2, .ref q3, .ref q4, .ref q5, .ref q6]) = G4 at t4' P4' g4 ⊢
  refine ⟨_, rfl, .inl ⟨rfl, _, sqL g4⟩, ?_⟩
  show tTup _ _ G4 _
  refine pairRd rfl (t4' _ _ hd) (I.k 7 (by decide)) fun q7 H7 s7 n7 e7 => ?_
  refine ⟨l4, _, _, rfl, rfl, s7 _ _ g4, (by rw [sizeLine_eq]; show 7 < _; omega), ?_⟩
  have sH7 := t4'.trans s7
  have t5 : Same H (upd H7 l4 (.lst ([.ref q0, .ref q1, .ref q2, .ref q3, .ref q4, .ref q5, .ref q6] ++ [.ref q7]))) := fun b o e => by
    rw [upd_ne (ne_of_none e f4)]
    exact sH7 _ _ e
  have P5 : PairsAt (upd H7 l4 (.lst ([.ref q0, .ref q1, .ref q2, .ref q3, .ref q4, .ref q5, .ref q6] ++ [.ref q7]))) ([.ref q0, .ref q1, .ref q2, .ref q3, .ref q4, .ref q5, .ref q6] ++ [.ref q7])
      [("NoDeed", bs 0), ("NoKind", bs 1), ("NoMark", bs 2), ("NoMember", bs 3), ("NoMembers", bs 4), ("NoText", bs 5), ("NoUse", bs 6), ("TwoFaced", bs 7)] := by
    have z := (P4'.same s7).app (.cons e7 .nil)
    exact PairsAt.upd z (s7 _ _ g4)
  have g5 : (upd H7 l4 (.lst ([.ref q0, .ref q1, .ref q2, .ref q3, .ref q4, .ref q5, .ref q6] ++ [.ref q7]))) l4 = some (.lst ([.ref q0, .ref q1, .ref q2, .ref q3, .ref q4, .ref q5, .ref q6] ++ [.ref q7])) := upd_same
  generalize upd H7 l4 (.lst ([.ref q0, .ref q1, .ref q2, .ref q3, .ref q4, .ref q5, .ref q6] ++ [.ref q7])) = G5 at t5 P5 g5 ⊢
  generalize ([.ref q0, .ref q1, .ref q2, .ref q3, .ref q4, .ref q5, .ref q6] ++ [.ref q7] : List V) = xs at P5 g5
  have tn : toldNames bs = [(("NoDeed" : Str), bs 0), ("NoKind", bs 1), ("NoMark", bs 2), ("NoMember", bs 3), ("NoMembers", bs 4), ("NoText", bs 5), ("NoUse", bs 6), ("TwoFaced", bs 7)].filterMap (fun nb => if nb.2 = true then some nb.1 else none) := rfl
  have hps : ([(("NoDeed" : Str), bs 0), ("NoKind", bs 1), ("NoMark", bs 2), ("NoMember", bs 3), ("NoMembers", bs 4), ("NoText", bs 5), ("NoUse", bs 6), ("TwoFaced", bs 7)] : List (Str × Bool)).length ≤ 1000 := by show 8 ≤ 1000; decide
  generalize [(("NoDeed" : Str), bs 0), ("NoKind", bs 1), ("NoMark", bs 2), ("NoMember", bs 3), ("NoMembers", bs 4), ("NoText", bs 5), ("NoUse", bs 6), ("TwoFaced", bs 7)] = ps at P5 tn hps
  have lx : xs.length = ps.length := P5.len
  have l8 : ps.length ≤ 1000 := hps
  refine ⟨_, rfl, l4, rfl, ⟨_, sqL g5⟩, fun D nD => ?_⟩
  refine lc_list (K := K) (a := l4) (xs := xs) (fun i H' => H' D = some (.lst (((ps.take i).filterMap fun nb => if nb.2 = true then some nb.1 else none).map V.str)) ∧ Same G5 H') ⟨upd_same, same_new nD⟩ (fun i H' _ h => sqL (h.2 _ _ g5)) ?_ ?_
  · rintro i x H' hx ⟨hD, sx⟩
    obtain ⟨q, n, b, rfl, hr', eq⟩ := P5.get hx
    have tk : ps.take (i + 1) = ps.take i ++ [(n, b)] := by rw [List.take_add_one, hr']; rfl
    have le : (((ps.take i).filterMap fun nb => if nb.2 = true then some nb.1 else none).map V.str).length ≤ 1000 := by
      rw [List.length_map]
      exact Nat.le_trans (List.length_filterMap_le _ _) (Nat.le_trans (List.length_take_le' _ _) l8)
    refine ⟨q, _, rfl, sqT (sx _ _ eq), rfl, _, _, rfl, _, _, rfl, rfl, rfl, _, rfl, b, rfl, ?_⟩
    rw [tk, List.filterMap_append]
    cases b with
    | false =>
      refine ⟨?_, sx⟩
      rw [hD]
      simp
    | true =>
      refine ⟨_, rfl, _, hD, (by rw [sizeLine_eq]; omega), ?_, fun b u e => ?_⟩
      · rw [upd_same]
        simp
      · rw [upd_ne (ne_of_none e nD)]
        exact sx _ _ e
  rintro H' ⟨hD, sx⟩
  rw [lx, List.take_of_length_le (Nat.le_refl _), ← tn] at hD
  refine ⟨_, rfl, rfl, fs, v, sx _ _ (t5 _ _ hd), hl, _, rfl, _, _, _, fs, rfl, fun u e => e, I.ve, sx _ _ (t5 _ _ hd), nm1000 2 (by decide), fun m5 nm5 => ?_⟩
  have lt : (toldNames bs).length ≤ 8 := by
    unfold toldNames
    exact Nat.le_trans (List.length_filterMap_le _ _) (by rw [List.length_range]; exact Nat.le_refl _)
  refine ⟨D, m5, _, _, rfl, rfl, (same_new nm5) _ _ hD, upd_same, ?_, fun a na => ?_⟩
  · rw [List.length_map, sizeLine_eq]
    show (toldNames bs).length + 2 ≤ _
    omega
  have t6 := (t5.trans sx).trans (same_new (o := .lst [v, .bl true]) nm5)
  exact out a _ (t6.trans (same_new na)) (t6.free na) upd_same
end
end FR


/-! A call by keywords alone that may raise, what is wanted of the error speaking of the slots. -/
namespace FR
open PySem PySem.Spec PyProof.Rows L2
def tCallKwS (m : Nat) (sp : Sp) (gV : List V → List V → List V) (E : L2.St → XK) (tk : TA) : TE := fun σ H Q => tk σ H fun zs H2 => zs.length = m ∧ sp (gV [] zs) H2 Q (E σ)
section
variable {X : Cx} {CX : CXT} {k : Nat} {f : Addr} {fd : FuncData} {ps ks : List Str} {sp : Sp} {E : L2.St → XK} {x : Str} {p pos : Pos} {kws : List Keyword} {tk : TA} {g : List Value → List Value → List Value} {gV : List V → List V → List V}
theorem pe_callKwS (F : FnOk X.prog X.w X.K X.mg X.base CX k f fd ps sp) (hr : L2.Room k X.A) (hg : Gl X x) (hm : X.mg x = some (.ref f)) (hk : PySem.W.keepIn X.K (.ref f) = true) (hb : KBn X.K fd ps 0 ks g gV) (hx : ∀ σ, PassesAt CX X σ (E σ)) (hkw : PK X kws tk)
    (hall : (backToKw pos (keywordEach kws X.env)).all (·.1.isSome) = true := by rfl) (hks : (backToKw pos (keywordEach kws X.env)).filterMap (·.1) = ks := by rfl) (hdb : (x == ("__debug__" : Str)) = false := by decide)
    (hpl : ((backTo pos (starEach [] X.env)).any (·.1) || (backToKw pos (keywordEach kws X.env)).any (·.1.isNone)) = false := by rfl) : PE X (.Call (.Name x p) [] kws pos) (tCallKwS ks.length sp gV E tk) := by
  constructor
  intro pins s σ H Q I h
  refine wpAny_Call_Name_kw (ld_glob I hg hm (PySem.W.callWith_KW0 (h₀ := X.base) I.ok.mod.kin hk hall (thn (hkw.run pos pins s σ H _ I h) fun ws s2 hv => ?_) hpl) hdb)
  obtain ⟨zs, H2, I2, rz, l2, q2⟩ := hv
  refine ⟨I2.kIn, ?_⟩
  rw [hks]
  have r2 : Vals (gV [] zs) (g [] ws) := hb.rel .nil rz
  refine wpAny_call (codeAny_mono (F.run X.A X.stack s2 H2 ⟨[], ks.zip ws⟩ (g [] ws) (gV [] zs) Q (E σ) hr I2.env0 (hb.to s2 [] ws I2.kIn rfl (rz.length.symm.trans l2)) r2 q2) fun r s' hq => ?_)
  rcases r with er | fl
  · exact hx σ pins H2 s2 er s' I2 hq
  · cases fl with
    | ret u => exact I2.after hq
    | next => exact False.elim hq
    | brk => exact False.elim hq
    | cont => exact False.elim hq
end
end FR

namespace FR
open PySem PySem.Spec PyProof.Rows L2 L2H SrtO
abbrev sLooked : Stmt := top 28
def spLooked : Sp := fun vs H Q _ => ∃ (p : Addr) (turn many : Nat) (a : Act), vs = [.int turn, .int many, .ref p] ∧ ActAt H p a ∧ 1 ≤ many ∧ IntOk a.who ∧ IntOk a.num ∧
  (a.good many → ∀ (t : Addr) (H' : Hp), Same H H' → H t = none → H' t = some (.lst [.non]) → Q (.ref t) H') ∧
  (¬ a.good many → ∀ (t m : Addr) (H' : Hp), Same H H' → H t = none → H' m = some (.tup [.int a.who, .int a.num]) → H' t = some (.lst [.str "NoDeed", .ref m, .bl true]) → Q (.ref t) H')
def onlyFirst (i : Nat) : Bool := i == 0
theorem told_first : toldNames onlyFirst = [("NoDeed" : Str)] := rfl
theorem takesN0 {X : Cx} : L2N.Takes X (fun _ _ _ _ => False) := fun _ _ x => by
  obtain ⟨_, _, _, _, _, _, _, _, _, _, _, _, _, _, _, _, z⟩ := x
  exact z.elim
section
variable {P : Program} {w : World} {K : PySem.W.Frag} {mg : Str → Option Value} {base : Heap}
abbrev nLooked : List Str := ["turn", "many", "act", "told", "e"]
theorem scLooked : FnScope nLooked ["turn", "many", "act"] (defScope sLooked) := ⟨rfl, rfl, rfl, by decide +kernel, rfl, by decide +kernel, by decide +kernel⟩
theorem ok_looked {c : Nat → Addr} {R : Addr} {k j : Nat} {f fL fK : Addr} {fd fdL fdK : FuncData} (F : Fun K "_law_looked" "_law_looked" sLooked f fd)
    (Lk : FnOk P w K mg base (L2N.CX P w) k fL fdL ["members", "deed"] (spLookX (c 0))) (mL : mg "look" = some (.ref fL)) (kL : PySem.W.keepIn K (.ref fL) = true) (bL : Binds K fdL ["members", "deed"] []) (nL : KBn K fdL ["members", "deed"] 0 ["deed", "members"] swap2 swap2)
    (Kd : FnP P w K mg base j fK fdK ["e"] (spKind K c)) (hj : j ≤ k) (mK : mg "_law_kind" = some (.ref fK)) (kK : PySem.W.keepIn K (.ref fK) = true) (bK : Binds K fdK ["e"] [])
    (mR : mg "RollError" = some (.ref R)) (xR : PySem.W.exmOne K (.ref (c 0)) (.ref R) = some true) (I0 : IsOf K c (c 0) onlyFirst) : FnOk P w K mg base CX0 (k + 1) f fd ["turn", "many", "act"] spLooked := by
  refine F.ok scLooked (fun vs H Q E h => ?_) (fun cdv A outer s H vs Q E hr h => ?_)
  · obtain ⟨p, turn, many, a, rfl, _⟩ := h
    rfl
  obtain ⟨p, turn, many, a, rfl, ha, b1, i1, i2, good, bad⟩ := h
  refine ⟨_, pss_cons (ps_set (i := 3) scLooked.nd rfl (.inl rfl) (pe_lst pa_nil))
    (pss_cons (L2N.ps_try_as (i := 4) rfl rfl scLooked.nd rfl rfl ⟨rfl, by decide, .inl mR⟩ takesN0
      (fun W pn xe tk _ => pss_one (ps_if (pt_cmpR op_eq (pe_op op_mod (pv 0) pe_int) pe_int (nomark _))
        (pss_one (ps_set (i := 3) scLooked.nd rfl (.inl rfl) (pe_lst (pa_cons (pe_callS Lk hr (by rfl) mL kL bL (L2N.passAt tk) (pa_cons (pv 1) (pa_cons (pv 2) pa_nil))) pa_nil))))
        (pss_one (ps_set (i := 3) scLooked.nd rfl (.inl rfl) (pe_lst (pa_cons (pe_callKwS Lk hr (by rfl) mL kL nL (L2N.passAt tk) (pk_cons (pv 2) (pk_cons (pv 1) pk_nil))) pa_nil))))))
      (fun e oe cls d pn hz hf => pss_one (ps_set (i := 3) scLooked.nd rfl (.inl rfl) (pe_callP (a := e) (oe := oe) Kd hz.zc hf (by exact RoomH.mono (k := k) ⟨hr.dp, hr.un⟩ hj) (by obtain ⟨us, hu⟩ := hf; exact ⟨rfl, us, hu, hz.2.2 us hu⟩) List.mem_cons_self (by rfl) mK kK bK (pa_cons (pv 4) pa_nil)))))
    (pss_one (ps_ret (pv 3)))), ?_⟩
  refine ⟨Nat.zero_le _, fun t0 nt0 => ?_⟩
  have s0 := same_new (o := .lst ([] : List V)) nt0
  have ha0 := ha.keep (S := []) (.of s0)
  generalize upd H t0 (.lst ([] : List V)) = H0 at s0 ha0 ⊢
  have l1 : ∀ n : Nat, n ≤ 1000 → n ≤ sizeLine := fun n h => by rw [sizeLine_eq]; omega
  refine ⟨_, rfl, _, _, rfl, rfl, (by show (0 : Int) < 2; decide), rfl, _, rfl, ite2 (fun _ => ?_) (fun _ => ?_)⟩
  · refine ⟨_, rfl, _, rfl, p, many, a, rfl, ha0, b1, i1, i2, fun g H1 s1 => ⟨l1 1 (by decide), fun t nt => ⟨_, rfl, good g t _ ((s0.trans s1).trans (same_new nt)) ((s0.trans s1).free nt) upd_same⟩⟩, fun ng d m H1 s1 nd nm em ed => ?_⟩
    refine ⟨true, xR, fun _ e ne => ⟨_, rfl, c 0, d, _, .ref m, onlyFirst, rfl, rfl, rfl, ed, rfl, I0, fun t H2 s2 nt et => ⟨_, rfl, ?_⟩⟩, fun z => Bool.noConfusion z⟩
    exact bad ng t m H2 ((s0.trans s1).trans s2) ((s0.trans s1).free nt) (s2 _ _ em) et
  · refine ⟨_, rfl, _, rfl, rfl, p, many, a, rfl, ha0, b1, i1, i2, fun g H1 s1 => ⟨l1 1 (by decide), fun t nt => ⟨_, rfl, good g t _ ((s0.trans s1).trans (same_new nt)) ((s0.trans s1).free nt) upd_same⟩⟩, fun ng d m H1 s1 nd nm em ed => ?_⟩
    refine ⟨true, xR, fun _ e ne => ⟨_, rfl, c 0, d, _, .ref m, onlyFirst, rfl, rfl, rfl, ed, rfl, I0, fun t H2 s2 nt et => ⟨_, rfl, ?_⟩⟩, fun z => Bool.noConfusion z⟩
    exact bad ng t m H2 ((s0.trans s1).trans s2) ((s0.trans s1).free nt) (s2 _ _ em) et
end
end FR


/-! tuple * int, once too. -/
namespace L2
open PySem PySem.Spec PyProof.Rows
theorem tuple_mulW1 (l : Addr) (items : Array Value) (n : Nat) (dd : Option Addr) (sl : Array (Option Value)) (x : Int) (u : Tok) (c0 : (decide (x < -(2 ^ 63)) || decide (x ≥ 2 ^ 63)) = false) (c1 : (items.isEmpty || x == 1) = true) :
    Meets (Builtin.«tuple.__mul__» ⟨[.ref l, .int x u], []⟩) (fun _ R s => s.heap.get? l = some { cls := .type "tuple", dict := dd, data := .seq items n, slots := sl } ∧ R (.ok (.ret (Value.ref l))) s) :=
  .of_wp fun prog w A R s h => by
    obtain ⟨hp, g, d, tk, os⟩ := s
    obtain ⟨hl, h⟩ := h
    have f1 := AutoSeq1.idx_int
    wp_walk using wpAny_loadPart' hl
    repeat (first
      | (refine wpAny_ite_false (decide_eq_false (by rw [c0]; exact Bool.false_ne_true)) ?_; wp_walk using wpAny_loadPart' hl)
      | (refine wpAny_ite_true (decide_eq_true c1) ?_; wp_walk using wpAny_loadPart' hl))
    exact ⟨_, rfl, h⟩
section
variable {X : Cx}
/-- a tuple times a number from 1 on -/
def rRepA (K : PySem.W.Frag) : R2 := fun x y H Q => ∃ l k xs, x = .ref l ∧ y = .int k ∧ SqT K H l xs ∧ xs ≠ [] ∧ 1 ≤ k ∧ k ≤ 1000 ∧ xs.length ≤ 1000 ∧ (k = 1 → Q (.ref l) H) ∧ (2 ≤ k → ∀ p, H p = none → Q (.ref p) (upd H p (.tup (List.replicate k.toNat xs).flatten)))
theorem op_repA : OpR X (binaryOp .Mult) (rRepA X.K) := by
  intro pins s σ H x y v u Q I rx ry h
  obtain ⟨l, k, xs, rfl, rfl, hT, hne, h1, h2, hz, q1, q2⟩ := h
  by_cases hk : 2 ≤ k
  · exact op_repT pins s σ H _ _ v u Q I rx ry ⟨l, k, xs, rfl, rfl, hT, hne, hk, h2, hz, q2 hk⟩
  have hk : k = 1 := by omega
  subst hk
  cases rx
  obtain ⟨t, rfl⟩ := ry
  obtain ⟨its, r, ⟨⟨cls, dd, data, sl⟩, ho, hc, n, hd⟩, hs⟩ := I.tuple hT
  simp only at hc hd
  subst hc hd
  refine wpAny_binaryOp_repeat_ref (T := "tuple") (U := "int") (by decide) ⟨_, ho, rfl⟩ (fun s' => typeIs_int s' 1 t) noFill_tuple_mul F.fills_int_mul F.slot_int_rmul repeat_tuple F.slot_int_index.lookup
    (call_meets F.slot_int_rmul (typeIs_int s 1 t) F.entry_int_rmul (F.args_int_rmul_2 _ _) (int_rmul_tuple 1 t l its.toArray n dd sl)
      ⟨ho, rfl, ⟨_, ho, rfl⟩, call_meets F.slot_tuple_mul ⟨_, ho, rfl⟩ F.entry_tuple_mul (F.args_tuple_mul_2 _ _) (tuple_mulW1 l its.toArray n dd sl 1 t (by decide) (by rw [Bool.or_eq_true]; exact .inr rfl)) ⟨ho, ?_⟩⟩)
  exact ⟨.ref l, H, I, rfl, q1 rfl⟩
end
end L2

namespace FR
open PySem PySem.Spec PyProof.Rows L2 SrtO
abbrev sBent : Stmt := top 26
abbrev nBent : List Str := ["tray", "many", "act", "who", "number", "note", "deal", "lot", "far", "at", "some", "whom"]
/-- _law_bent: any deed may come of it -/
def spBent : Sp := fun vs H Q _ => ∃ (t g p : Addr) (N many : Nat) (a : Act), vs = [.ref t, .int many, .ref p] ∧ TrayAt H t g N ∧ N < 2 ^ 59 ∧ 1 ≤ many ∧ many ≤ 6 ∧ ActAt H p a ∧ a.note.length = many ∧ 0 ≤ a.who ∧ a.who < many ∧ 1 ≤ a.num ∧ a.num ≤ 1000 ∧ a.what.Fit ∧
  ∀ (H' : Hp) (p' : Addr) (b : Act), H p' = none → ActAt H' p' b → IntOk b.who → IntOk b.num → b.what.Fit → TrayAt H' t g (N + 6) → Kp [t, g] H H' → Q (.ref p') H'
theorem intOk_inB {i : Int} (h1 : -4294967296 ≤ i) (h2 : i ≤ 4294967296) : IntOk i := by
  unfold IntOk
  by_cases e : i.natAbs = 0
  · rw [e]
    decide
  · have h : i.natAbs < 2 ^ 40 := by
      have : (2 : Nat) ^ 40 = 1099511627776 := by decide
      omega
    have := (Nat.log2_lt e).mpr h
    omega
theorem eqNo {i j : Int} {A B : Prop} (h : i ≠ j) (b : B) : if decide (V.int i = V.int j) = true then A else B := by
  rw [decide_eq_false fun e => h (V.int.inj e)]
  exact iteF b
theorem eqYes {i : Int} {A B : Prop} (a : A) : if decide (V.int i = V.int i) = true then A else B := by
  rw [decide_eq_true rfl]
  exact iteT a
/-- a tuple of whole numbers -/
def TupInts (H : Hp) (p : Addr) : Prop := ∃ ns : List Int, H p = some (.tup (ns.map V.int)) ∧ ns.length ≤ 100
theorem TupInts.keep {S : List Addr} {H H' : Hp} {p : Addr} (h : TupInts H p) (k : Kp S H H') : TupInts H' p := by
  obtain ⟨ns, e, l⟩ := h
  exact ⟨ns, k.tp _ _ e, l⟩
theorem cut_ints (ns : List Int) (lo hi : Option Int) : ∃ ms : List Int, cutV (ns.map V.int) lo hi = ms.map V.int ∧ ms.length ≤ ns.length := by
  unfold cutV
  refine ⟨_, by rw [← List.map_drop, ← List.map_take], ?_⟩
  rw [List.length_take, List.length_drop]
  omega
section
variable {P : Program} {w : World} {K : PySem.W.Frag} {mg : Str → Option Value} {base : Heap}
theorem scBent : FnScope nBent ["tray", "many", "act"] (defScope sBent) := ⟨rfl, rfl, rfl, by decide +kernel, rfl, by decide +kernel, by decide +kernel⟩
theorem ok_bent {f fD : Addr} {fd fdD : FuncData} {k : Nat} (F : Fun K "_law_bent" "_law_bent" sBent f fd) (D : DrawC P w K mg base k fD fdD) (B : Blt mg) : FnOk P w K mg base CX0 (k + 1) f fd ["tray", "many", "act"] spBent := by
  refine F.ok scBent (fun vs H Q E h => ?_) (fun cdv A outer s H vs Q E hr h => ?_)
  · obtain ⟨t, g, p, N, many, a, rfl, _⟩ := h
    rfl
  obtain ⟨t, g, p, N, many, a, rfl, T, hN, b1, b6, ha, hl, w0, w1, n1, n2, hf, out⟩ := h
  obtain ⟨n, q, h1, h2, h3⟩ := ha
  refine ⟨_, pss_cons (ps_asg (pv 2) (pg_tup rfl (pgs_cons (pg_name (i := 3) scBent.nd rfl (.inl rfl)) (pgs_cons (pg_name (i := 4) scBent.nd rfl (.inl rfl)) (pgs_cons (pg_name (i := 5) scBent.nd rfl (.inl rfl)) (pgs_cons (pg_name (i := 6) scBent.nd rfl (.inl rfl)) pgs_nil))))))
    (pss_cons (ps_set (i := 7) scBent.nd rfl (.inl rfl) (pe_call D.ok hr (by rfl) D.m D.kp D.b .nil pass0 (pa_cons (pv 0) (pa_cons pe_int pa_nil))))
    (pss_cons (ps_set (i := 8) scBent.nd rfl (.inl rfl) (pe_op op_add pe_int (pe_call D.ok hr (by rfl) D.m D.kp D.b .nil pass0 (pa_cons (pv 0) (pa_cons (pe_op op_pow pe_int pe_int) pa_nil)))))
    (pss_cons (ps_if (pt_cmpR op_eq (pv 7) pe_int (nomark _)) (pss_one (ps_set (i := 3) scBent.nd rfl (.inl rfl) (pe_ix ix_list (pe_lst (pa_cons (pe_un un_neg pe_int) (pa_cons (pv 1) (pa_cons (pe_op op_add (pv 1) (pv 8)) (pa_cons (pe_op op_sub pe_int (pv 8)) (pa_cons (pe_op op_mod (pe_op op_add (pv 3) pe_int) (pv 1)) pa_nil))))))
        (pe_call D.ok hr (by rfl) D.m D.kp D.b .nil pass0 (pa_cons (pv 0) (pa_cons pe_int pa_nil))) (fun _ _ => rfl)))) pss_nil)
    (pss_cons (ps_if (pt_cmpR op_eq (pv 7) pe_int (nomark _)) (pss_one (ps_set (i := 4) scBent.nd rfl (.inl rfl) (pe_ix ix_list (pe_lst (pa_cons pe_int (pa_cons (pe_op op_sub pe_int (pv 4)) (pa_cons (pe_op op_add (pv 4) pe_int) (pa_cons (pe_op op_sub (pv 4) pe_int) (pa_cons (pe_op op_add (pv 4) (pv 8)) (pa_cons (pe_op op_sub pe_int (pv 8)) pa_nil)))))))
        (pe_call D.ok hr (by rfl) D.m D.kp D.b .nil pass0 (pa_cons (pv 0) (pa_cons pe_int pa_nil))) (fun _ _ => rfl)))) pss_nil)
    (pss_cons (ps_if (pt_cmpR op_eq (pv 7) pe_int (nomark _)) (pss_one (ps_set (i := 5) scBent.nd rfl (.inl rfl) (pe_ix ix_list (pe_lst (pa_cons (pe_tup pa_nil) (pa_cons (pe_slice sl_tupA (pv 5) (po_some pe_int) po_none) (pa_cons (pe_slice sl_tupA (pv 5) po_none (po_some (pe_un un_neg pe_int))) (pa_cons (pe_op op_catA (pv 5) (pe_tup (pa_cons pe_int pa_nil))) (pa_cons (pe_op op_repA (pv 5) pe_int) (pa_cons (pe_op op_repA (pe_tup (pa_cons pe_int pa_nil)) (pv 1)) pa_nil)))))))
        (pe_call D.ok hr (by rfl) D.m D.kp D.b .nil pass0 (pa_cons (pv 0) (pa_cons pe_int pa_nil))) (fun _ _ => rfl)))) pss_nil)
    (pss_cons (ps_if (pt_cmpR op_eq (pv 7) pe_int (nomark _))
      (pss_cons (ps_set (i := 9) scBent.nd rfl (.inl rfl) (pe_call D.ok hr (by rfl) D.m D.kp D.b .nil pass0 (pa_cons (pv 0) (pa_cons (pv 1) pa_nil))))
      (pss_cons (ps_set (i := 10) scBent.nd rfl (.inl rfl) (pe_lst (pa_cons (pe_un un_neg pe_int) (pa_cons (pe_op op_add (pe_ix ix_tup (pv 5) (pv 9) (fun _ _ => rfl)) pe_int) (pa_cons (pe_op op_sub (pe_ix ix_tup (pv 5) (pv 9) (fun _ _ => rfl)) pe_int) (pa_cons (pe_op op_sub pe_int (pv 8)) (pa_cons (pe_op op_add (pe_ix ix_tup (pv 5) (pv 9) (fun _ _ => rfl)) (pv 8)) pa_nil)))))))
      (pss_one (ps_set (i := 5) scBent.nd rfl (.inl rfl) (pe_op op_catA (pe_op op_catA (pe_slice sl_tupA (pv 5) po_none (po_some (pv 9))) (pe_tup (pa_cons (pe_ix ix_list (pv 10) (pe_call D.ok hr (by rfl) D.m D.kp D.b .nil pass0 (pa_cons (pv 0) (pa_cons pe_int pa_nil))) (fun _ _ => rfl)) pa_nil)))
        (pe_slice sl_tupA (pv 5) (po_some (pe_op op_add (pv 9) pe_int)) po_none)))))) pss_nil)
    (pss_cons (ps_if (pt_cmpR op_eq (pv 7) pe_int (nomark _))
      (pss_cons (ps_set (i := 11) scBent.nd rfl (.inl rfl) (pe_ix ix_list (pe_lst (pa_cons (pv 3) (pa_cons (pe_op op_sub (pv 3) pe_int) (pa_cons pe_int (pa_cons (pe_un un_neg pe_int) (pa_cons (pv 1) (pa_cons (pe_op op_add (pv 1) (pv 8)) (pa_cons (pe_op op_sub (pv 1) pe_int) (pa_cons (pe_op op_sub pe_int (pv 8)) pa_nil)))))))))
        (pe_call D.ok hr (by rfl) D.m D.kp D.b .nil pass0 (pa_cons (pv 0) (pa_cons pe_int pa_nil))) (fun _ _ => rfl)))
      (pss_one (ps_set (i := 6) scBent.nd rfl (.inl rfl) (pe_tup (pa_cons (pe_ix ix_list (pe_lst (pa_cons pe_str (pa_cons pe_str pa_nil))) (pe_call D.ok hr (by rfl) D.m D.kp D.b .nil pass0 (pa_cons (pv 0) (pa_cons pe_int pa_nil))) (fun _ _ => rfl)) (pa_cons pe_str (pa_cons (pe_ix ix_list (pe_lst (pa_cons pe_str (pa_cons pe_str pa_nil))) (pe_call D.ok hr (by rfl) D.m D.kp D.b .nil pass0 (pa_cons (pv 0) (pa_cons pe_int pa_nil))) (fun _ _ => rfl)) (pa_cons (pv 11) pa_nil)))))))) pss_nil)
    (pss_one (ps_ret (pe_tup (pa_cons (pv 3) (pa_cons (pv 4) (pa_cons (pv 5) (pa_cons (pv 6) pa_nil)))))))))))))), ?_⟩
  have fin : ∀ (HF : Hp) (who num : Int) (nn qq : Addr) (ns : List Int) (wt : What), HF nn = some (.tup (ns.map .int)) → HF qq = some (.tup wt.vs) → IntOk who → IntOk num → wt.Fit → TrayAt HF t g (N + 6) → Kp [t, g] H HF → ∀ p', HF p' = none →
      Q (.ref p') (upd HF p' (.tup [.int who, .int num, .ref nn, .ref qq])) := fun HF who num nn qq ns wt e1 e2 i1 i2 f T k p' np =>
    out _ p' ⟨who, num, ns, wt⟩ (k.dm p' np) ⟨nn, qq, upd_same, upd_at e1 np, upd_at e2 np⟩ i1 i2 f (T.same (same_new np)) (k.trans (.new np))
  have iw : IntOk a.who := intOk_inB (by omega) (by omega)
  have im : IntOk a.num := intOk_inB (by omega) (by omega)
  refine ⟨_, rfl, p, _, rfl, sqT h1, rfl, _, _, rfl, _, _, rfl, _, _, rfl, _, _, rfl, rfl, ?_⟩
  refine ⟨_, rfl, t, g, N, 5, rfl, T, by omega, by decide, by decide, fun H1 lot l0 l5 T1 k1 => ?_⟩
  refine ⟨_, rfl, _, _, rfl, rfl, ⟨by decide, by decide, by decide⟩, t, g, _, _, rfl, T1, by omega, by decide, by decide, fun H2 far f0 f1 T2 k2 => ⟨_, _, rfl, rfl, ?_⟩⟩
  have f1 : far < 100000000 := f1
  have kH := k1.trans k2
  have e2 := kH.tp _ _ h2
  have e3 := kH.tp _ _ h3
  have hlot : lot = 0 ∨ lot = 1 ∨ lot = 2 ∨ lot = 3 ∨ lot = 4 := by omega
  rcases hlot with rfl | rfl | rfl | rfl | rfl
  · refine ⟨_, rfl, rfl, _, rfl, eqYes ?_⟩
    refine ⟨_, rfl, _, rfl, _, rfl, _, rfl, _, _, rfl, rfl, _, rfl, _, _, rfl, rfl, _, rfl, _, _, rfl, rfl, _, rfl, _, _, rfl, rfl, by omega, (by show 5 ≤ sizeLine; decide), fun pl npl => ?_⟩
    refine ⟨_, rfl, t, g, _, 5, rfl, T2.same (same_new npl), by omega, by decide, by decide, fun H3 j j0 j5 T3 k3 => ?_⟩
    obtain ⟨z, ez, z0⟩ : ∃ z : Int, atI ([.int (-1), .int (many : Int), .int ((many : Int) + (1 + far)), .int (0 - (1 + far)), .int ((a.who + 1) % (many : Int))] : List V) j = some (.int z) ∧ IntOk z := by
      have m0 := Int.emod_nonneg (a.who + 1) (b := (many : Int)) (by omega)
      have m1 := Int.emod_lt_of_pos (a.who + 1) (b := (many : Int)) (by omega)
      have e : j = 0 ∨ j = 1 ∨ j = 2 ∨ j = 3 ∨ j = 4 := by omega
      rcases e with rfl | rfl | rfl | rfl | rfl <;> exact ⟨_, rfl, intOk_inB (by omega) (by omega)⟩
    have kL := (Kp.new (S := [t, g]) npl).trans k3
    refine ⟨pl, _, _, _, rfl, rfl, sqL (k3.lst upd_same (T2.neT npl)), ez, ?_⟩
    exact ⟨_, rfl, rfl, _, rfl, eqNo (by decide) ⟨_, rfl, rfl, _, rfl, eqNo (by decide) ⟨_, rfl, rfl, _, rfl, eqNo (by decide) ⟨_, rfl, rfl, _, rfl, eqNo (by decide)
      ⟨_, rfl, _, rfl, _, rfl, _, rfl, (by show 4 ≤ sizeLine; decide), fin _ _ _ n q a.note a.what (kL.tp _ _ e2) (kL.tp _ _ e3) z0 im hf (T3.mono (by omega)) (kH.trans kL)⟩⟩⟩⟩⟩

  · refine ⟨_, rfl, rfl, _, rfl, eqNo (by decide) ⟨_, rfl, rfl, _, rfl, eqYes ?_⟩⟩
    refine ⟨_, rfl, _, _, rfl, rfl, _, rfl, _, _, rfl, rfl, _, rfl, _, _, rfl, rfl, _, rfl, _, rfl, _, _, rfl, rfl, _, rfl, _, _, rfl, rfl, (by show 6 ≤ sizeLine; decide), fun pl npl => ?_⟩
    refine ⟨_, rfl, t, g, _, 6, rfl, T2.same (same_new npl), by omega, by decide, by decide, fun H3 j j0 j5 T3 k3 => ?_⟩
    obtain ⟨z, ez, z0⟩ : ∃ z : Int, atI ([.int 0, .int (0 - a.num), .int (a.num + 1), .int (a.num - 1), .int (a.num + (1 + far)), .int (0 - (1 + far))] : List V) j = some (.int z) ∧ IntOk z := by
      have e : j = 0 ∨ j = 1 ∨ j = 2 ∨ j = 3 ∨ j = 4 ∨ j = 5 := by omega
      rcases e with rfl | rfl | rfl | rfl | rfl | rfl <;> exact ⟨_, rfl, intOk_inB (by omega) (by omega)⟩
    have kL := (Kp.new (S := [t, g]) npl).trans k3
    refine ⟨pl, _, _, _, rfl, rfl, sqL (k3.lst upd_same (T2.neT npl)), ez, ?_⟩
    exact ⟨_, rfl, rfl, _, rfl, eqNo (by decide) ⟨_, rfl, rfl, _, rfl, eqNo (by decide) ⟨_, rfl, rfl, _, rfl, eqNo (by decide)
      ⟨_, rfl, _, rfl, _, rfl, _, rfl, (by show 4 ≤ sizeLine; decide), fin _ _ _ n q a.note a.what (kL.tp _ _ e2) (kL.tp _ _ e3) iw z0 hf (T3.mono (by omega)) (kH.trans kL)⟩⟩⟩⟩

  · refine ⟨_, rfl, rfl, _, rfl, eqNo (by decide) ⟨_, rfl, rfl, _, rfl, eqNo (by decide) ⟨_, rfl, rfl, _, rfl, eqYes ?_⟩⟩⟩
    have tn2 : TupInts H2 n := ⟨a.note, e2, by omega⟩
    have nl0 : a.note.map V.int ≠ [] := fun e => by
      have := congrArg List.length e
      rw [List.length_map] at this
      simp only [List.length_nil] at this
      omega
    have lm : (a.note.map V.int).length = many := by rw [List.length_map, hl]
    -- ()
    refine ⟨(by show 0 ≤ sizeLine; decide), fun p1 np1 => ?_⟩
    have c1 : Kp [t, g] H2 (upd H2 p1 (.tup [])) := .new np1
    have x1 : TupInts (upd H2 p1 (.tup [])) p1 := ⟨[], upd_same, by decide⟩
    have U1 := T2.same (same_new (o := .tup []) np1)
    generalize upd H2 p1 (.tup []) = G1 at c1 x1 U1
    -- note[1:]
    refine ⟨_, rfl, 1, rfl, n, _, rfl, sqT (c1.tp _ _ e2), fun hw => ?_, fun _ p2 np2 => ?_⟩
    · rw [lm] at hw
      have h0 : min (1 : Int).toNat many = 0 := hw.1
      omega
    obtain ⟨m2, em2, lm2⟩ := cut_ints a.note (some 1) none
    rw [em2]
    have c2 := c1.trans (.new (S := [t, g]) (o := .tup (m2.map V.int)) np2)
    have x2 : TupInts (upd G1 p2 (.tup (m2.map V.int))) p2 := ⟨m2, upd_same, by omega⟩
    have y1 := x1.keep (Kp.new (S := [t, g]) (o := .tup (m2.map V.int)) np2)
    have U2 := U1.same (same_new (o := .tup (m2.map V.int)) np2)
    generalize upd G1 p2 (.tup (m2.map V.int)) = G2 at c2 x2 U2 y1
    -- note[:-1]
    refine ⟨_, rfl, _, rfl, _, rfl, n, _, rfl, sqT (c2.tp _ _ e2), fun hw => ?_, fun _ p3 np3 => ?_⟩
    · rw [lm] at hw
      have h0 : (if (-1 : Int) < 0 then ((-1 : Int) + (many : Int)).toNat else min (-1 : Int).toNat many) = many := hw.2
      rw [if_pos (by decide)] at h0
      omega
    obtain ⟨m3, em3, lm3⟩ := cut_ints a.note none (some (-1))
    rw [em3]
    have d3 : Kp [t, g] G2 _ := .new (S := [t, g]) (o := .tup (m3.map V.int)) np3
    have c3 := c2.trans d3
    have x3 : TupInts (upd G2 p3 (.tup (m3.map V.int))) p3 := ⟨m3, upd_same, by omega⟩
    have z1 := y1.keep d3
    have z2 := x2.keep d3
    have U3 := U2.same (same_new (o := .tup (m3.map V.int)) np3)
    generalize upd G2 p3 (.tup (m3.map V.int)) = G3 at c3 x3 U3 z1 z2 d3
    clear d3
    -- note + (0,)
    refine ⟨_, rfl, (by show 1 ≤ sizeLine; decide), fun p4 np4 => ?_⟩
    have d4 : Kp [t, g] G3 _ := .new (S := [t, g]) (o := .tup [.int 0]) np4
    refine ⟨n, p4, _, _, rfl, rfl, sqT (d4.tp _ _ (c3.tp _ _ e2)), sqT upd_same, (by rw [lm]; exact Nat.le_trans (by show many + 1 ≤ 1000; omega) (by decide)), fun e => absurd e nl0, fun _ e => absurd e (by simp), fun _ _ p5 np5 => ?_⟩
    have d5 := d4.trans (.new (S := [t, g]) (o := .tup (a.note.map V.int ++ [.int 0])) np5)
    have x5 : TupInts (upd (upd G3 p4 (.tup [.int 0])) p5 (.tup (a.note.map V.int ++ [.int 0]))) p5 := ⟨a.note ++ [0], by rw [List.map_append]; exact upd_same, by rw [List.length_append, hl]; show many + 1 ≤ 100; omega⟩
    have U5 := (U3.same (same_new (o := .tup [.int 0]) np4)).same (same_new (o := .tup (a.note.map V.int ++ [.int 0])) np5)
    generalize upd (upd G3 p4 (.tup [.int 0])) p5 (.tup (a.note.map V.int ++ [.int 0])) = G5 at d5 x5 U5
    have c5 := c3.trans d5
    have w1 := z1.keep d5
    have w2 := z2.keep d5
    have w3 := x3.keep d5
    -- note * 2
    refine ⟨_, rfl, n, 2, _, rfl, rfl, sqT (c5.tp _ _ e2), nl0, by decide, by decide, by omega, fun e => absurd e (by decide), fun _ p6 np6 => ?_⟩
    have e6 : (List.replicate (2 : Int).toNat (a.note.map V.int)).flatten = (a.note ++ a.note).map V.int := by
      show (a.note.map V.int) ++ ((a.note.map V.int) ++ []) = _
      rw [List.append_nil, List.map_append]
    rw [e6]
    have d6 : Kp [t, g] G5 _ := .new (S := [t, g]) (o := .tup ((a.note ++ a.note).map V.int)) np6
    have x6 : TupInts (upd G5 p6 (.tup ((a.note ++ a.note).map V.int))) p6 := ⟨_, upd_same, by rw [List.length_append]; omega⟩
    have U6 := U5.same (same_new (o := .tup ((a.note ++ a.note).map V.int)) np6)
    generalize upd G5 p6 (.tup ((a.note ++ a.note).map V.int)) = G6 at d6 x6 U6
    have c6 := c5.trans d6
    have v1 := w1.keep d6
    have v2 := w2.keep d6
    have v3 := w3.keep d6
    have v5 := x5.keep d6
    clear w1 w2 w3 x5 x1 y1 z1 x2 z2 x3
    -- (0,) * many
    refine ⟨(by show 1 ≤ sizeLine; decide), fun p7 np7 => ⟨_, rfl, p7, many, [.int 0], rfl, rfl, sqT upd_same, by simp, by omega, by omega, by decide, fun _ => ?_, fun _ p8 np8 => ?_⟩⟩
    · have d8 : Kp [t, g] G6 _ := .new (S := [t, g]) (o := .tup [.int 0]) np7
      have x8 : TupInts (upd G6 p7 (.tup [.int 0])) p7 := ⟨[0], upd_same, by decide⟩
      have U8 := U6.same (same_new (o := .tup [.int 0]) np7)
      generalize upd G6 p7 (.tup [.int 0]) = G8 at d8 x8 U8
      have c8 := c6.trans d8
      refine ⟨(by show 6 ≤ sizeLine; decide), fun pl npl => ?_⟩
      refine ⟨_, rfl, t, g, _, 6, rfl, U8.same (same_new npl), by omega, by decide, by decide, fun H3 j j0 j5 T3 k3 => ?_⟩
      have dL := (Kp.new (S := [t, g]) npl).trans k3
      obtain ⟨z, ez, z0⟩ : ∃ z : Addr, atI ([.ref p1, .ref p2, .ref p3, .ref p5, .ref p6, .ref p7] : List V) j = some (.ref z) ∧ TupInts H3 z := by
        have e : j = 0 ∨ j = 1 ∨ j = 2 ∨ j = 3 ∨ j = 4 ∨ j = 5 := by omega
        rcases e with rfl | rfl | rfl | rfl | rfl | rfl
        · exact ⟨_, rfl, (v1.keep d8).keep dL⟩
        · exact ⟨_, rfl, (v2.keep d8).keep dL⟩
        · exact ⟨_, rfl, (v3.keep d8).keep dL⟩
        · exact ⟨_, rfl, (v5.keep d8).keep dL⟩
        · exact ⟨_, rfl, (x6.keep d8).keep dL⟩
        · exact ⟨_, rfl, x8.keep dL⟩
      obtain ⟨zs, ezs, _⟩ := z0
      have kL := c8.trans dL
      refine ⟨pl, _, _, _, rfl, rfl, sqL (k3.lst upd_same (U8.neT npl)), ez, ?_⟩
      exact ⟨_, rfl, rfl, _, rfl, eqNo (by decide) ⟨_, rfl, rfl, _, rfl, eqNo (by decide)
        ⟨_, rfl, _, rfl, _, rfl, _, rfl, (by show 4 ≤ sizeLine; decide), fin _ _ _ z q zs a.what ezs (kL.tp _ _ e3) iw im hf (T3.mono (by omega)) (kH.trans kL)⟩⟩⟩
    · have d8 := (Kp.new (S := [t, g]) (o := .tup [.int 0]) np7).trans (.new (S := [t, g]) (o := .tup (List.replicate ((many : Nat) : Int).toNat [V.int 0]).flatten) np8)
      have x8 : TupInts (upd (upd G6 p7 (.tup [.int 0])) p8 (.tup (List.replicate ((many : Nat) : Int).toNat [V.int 0]).flatten)) p8 := ⟨(List.replicate many [0]).flatten, by rw [upd_same, List.map_flatten, List.map_replicate]; rfl, by
        rw [PyProof.Rows.lm_len_rep_flat]
        show many * 1 ≤ 100
        omega⟩
      have U8 := (U6.same (same_new (o := .tup [.int 0]) np7)).same (same_new (o := .tup (List.replicate ((many : Nat) : Int).toNat [V.int 0]).flatten) np8)
      generalize upd (upd G6 p7 (.tup [.int 0])) p8 (.tup (List.replicate ((many : Nat) : Int).toNat [V.int 0]).flatten) = G8 at d8 x8 U8
      have c8 := c6.trans d8
      refine ⟨(by show 6 ≤ sizeLine; decide), fun pl npl => ?_⟩
      refine ⟨_, rfl, t, g, _, 6, rfl, U8.same (same_new npl), by omega, by decide, by decide, fun H3 j j0 j5 T3 k3 => ?_⟩
      have dL := (Kp.new (S := [t, g]) npl).trans k3
      obtain ⟨z, ez, z0⟩ : ∃ z : Addr, atI ([.ref p1, .ref p2, .ref p3, .ref p5, .ref p6, .ref p8] : List V) j = some (.ref z) ∧ TupInts H3 z := by
        have e : j = 0 ∨ j = 1 ∨ j = 2 ∨ j = 3 ∨ j = 4 ∨ j = 5 := by omega
        rcases e with rfl | rfl | rfl | rfl | rfl | rfl
        · exact ⟨_, rfl, (v1.keep d8).keep dL⟩
        · exact ⟨_, rfl, (v2.keep d8).keep dL⟩
        · exact ⟨_, rfl, (v3.keep d8).keep dL⟩
        · exact ⟨_, rfl, (v5.keep d8).keep dL⟩
        · exact ⟨_, rfl, (x6.keep d8).keep dL⟩
        · exact ⟨_, rfl, x8.keep dL⟩
      obtain ⟨zs, ezs, _⟩ := z0
      have kL := c8.trans dL
      refine ⟨pl, _, _, _, rfl, rfl, sqL (k3.lst upd_same (U8.neT npl)), ez, ?_⟩
      exact ⟨_, rfl, rfl, _, rfl, eqNo (by decide) ⟨_, rfl, rfl, _, rfl, eqNo (by decide)
        ⟨_, rfl, _, rfl, _, rfl, _, rfl, (by show 4 ≤ sizeLine; decide), fin _ _ _ z q zs a.what ezs (kL.tp _ _ e3) iw im hf (T3.mono (by omega)) (kH.trans kL)⟩⟩⟩
  · refine ⟨_, rfl, rfl, _, rfl, eqNo (by decide) ⟨_, rfl, rfl, _, rfl, eqNo (by decide) ⟨_, rfl, rfl, _, rfl, eqNo (by decide) ⟨_, rfl, rfl, _, rfl, eqYes ?_⟩⟩⟩⟩
    have lm : (a.note.map V.int).length = many := by rw [List.length_map, hl]
    refine ⟨_, rfl, _, rfl, t, g, _, many, rfl, T2, by omega, by omega, by omega, fun H3 ai a0 a1 T3 k3 => ?_⟩
    obtain ⟨z, hz⟩ := get_some (l := a.note) (i := ai.toNat) (by omega)
    have az : atI (a.note.map V.int) ai = some (.int z) := at_of (j := ai.toNat) (by omega) (ints_at hz)
    have e23 := k3.tp _ _ e2
    refine ⟨_, rfl, _, rfl, _, rfl, n, _, _, _, rfl, rfl, sqT e23, az, _, _, rfl, rfl, _, rfl, _, rfl, n, _, _, _, rfl, rfl, sqT e23, az, _, _, rfl, rfl, _, rfl, _, _, rfl, rfl, _, rfl, _, rfl, n, _, _, _, rfl, rfl, sqT e23, az, _, rfl, _, _, rfl, rfl, (by show 5 ≤ sizeLine; decide), fun pl npl => ?_⟩
    have d4 : Kp [t, g] H3 _ := .new (S := [t, g]) (o := .lst [.int (-1), .int (z + 1), .int (z - 1), .int (0 - (1 + far)), .int (z + (1 + far))]) npl
    have npT := T3.neT npl
    have T4 := T3.same (same_new (o := .lst [.int (-1), .int (z + 1), .int (z - 1), .int (0 - (1 + far)), .int (z + (1 + far))]) npl)
    have hpl : upd H3 pl (.lst [.int (-1), .int (z + 1), .int (z - 1), .int (0 - (1 + far)), .int (z + (1 + far))]) pl = _ := upd_same
    generalize upd H3 pl (.lst [.int (-1), .int (z + 1), .int (z - 1), .int (0 - (1 + far)), .int (z + (1 + far))]) = H4 at d4 T4 hpl
    -- note[:at]
    refine ⟨_, rfl, _, rfl, ai, rfl, n, _, rfl, sqT (d4.tp _ _ e23), fun hw => ?_, fun _ px npx => ?_⟩
    · rw [lm] at hw
      have h0 : (if ai < 0 then (ai + (many : Int)).toNat else min ai.toNat many) = many := hw.2
      rw [if_neg (by omega)] at h0
      omega
    obtain ⟨ms, ems, lms⟩ := cut_ints a.note none (some ai)
    rw [ems]
    have d5 := d4.trans (.new (S := [t, g]) (o := .tup (ms.map V.int)) npx)
    have ex : upd H4 px (.tup (ms.map V.int)) px = _ := upd_same
    have T5 := T4.same (same_new (o := .tup (ms.map V.int)) npx)
    have hpl5 : upd H4 px (.tup (ms.map V.int)) pl = _ := upd_at hpl npx
    generalize upd H4 px (.tup (ms.map V.int)) = H5 at d5 T5 hpl5 ex
    -- (some[..],)
    refine ⟨_, rfl, _, rfl, t, g, _, 5, rfl, T5, by omega, by decide, by decide, fun H6 j j0 j5 T6 k6 => ?_⟩
    obtain ⟨y, ey⟩ : ∃ y : Int, atI ([.int (-1), .int (z + 1), .int (z - 1), .int (0 - (1 + far)), .int (z + (1 + far))] : List V) j = some (.int y) := by
      have e : j = 0 ∨ j = 1 ∨ j = 2 ∨ j = 3 ∨ j = 4 := by omega
      rcases e with rfl | rfl | rfl | rfl | rfl <;> exact ⟨_, rfl⟩
    refine ⟨pl, _, _, _, rfl, rfl, sqL (k6.lst hpl5 npT), ey, (by show 1 ≤ sizeLine; decide), fun py npy => ?_⟩
    have d7 := (d5.trans k6).trans (.new (S := [t, g]) (o := .tup [.int y]) npy)
    have ex7 := (k6.trans (.new (S := [t, g]) (o := .tup [.int y]) npy)).tp _ _ ex
    have ey7 : upd H6 py (.tup [.int y]) py = _ := upd_same
    have T7 := T6.same (same_new (o := .tup [.int y]) npy)
    generalize upd H6 py (.tup [.int y]) = H7 at d7 ex7 ey7 T7
    refine ⟨px, py, _, _, rfl, rfl, sqT ex7, sqT ey7, (by rw [List.length_map]; exact Nat.le_trans (by show ms.length + 1 ≤ 1000; omega) (by decide)), fun e0 => ?_, fun _ e => absurd e (by simp), fun e0 _ pw npw => ?_⟩
    · have hw : ∃ us : List Int, H7 py = some (.tup (us.map V.int)) ∧ us ≠ [] ∧ us.length ≤ 7 := ⟨[y], ey7, by simp, by show 1 ≤ 7; decide⟩
      have d8 : Kp [t, g] H3 H7 := d7
      have T8 := T7
      generalize H7 = H8 at d8 T8 hw
      obtain ⟨us, eus, un, ul⟩ := hw
      have un0 : us.map V.int ≠ [] := fun e => un (by simpa using e)
      refine ⟨_, rfl, _, rfl, _, _, rfl, rfl, ai + 1, rfl, n, _, rfl, sqT (d8.tp _ _ e23), fun hw => ?_, fun _ pv npv => ?_⟩
      · have h0 : (if ai + 1 < 0 then (ai + 1 + ((a.note.map V.int).length : Int)).toNat else min (ai + 1).toNat (a.note.map V.int).length) = 0 := hw.1
        rw [lm, if_neg (by omega)] at h0
        omega
      obtain ⟨vs2, evs, lvs⟩ := cut_ints a.note (some (ai + 1)) none
      rw [evs]
      have d9 := d8.trans (.new (S := [t, g]) (o := .tup (vs2.map V.int)) npv)
      have eu9 : upd H8 pv (.tup (vs2.map V.int)) py = _ := upd_at eus npv
      have ev9 : upd H8 pv (.tup (vs2.map V.int)) pv = _ := upd_same
      have T9 := T8.same (same_new (o := .tup (vs2.map V.int)) npv)
      generalize upd H8 pv (.tup (vs2.map V.int)) = H9 at d9 eu9 ev9 T9
      refine ⟨py, pv, _, _, rfl, rfl, sqT eu9, sqT ev9, (by rw [List.length_map, List.length_map]; exact Nat.le_trans (by show us.length + vs2.length ≤ 1000; omega) (by decide)), fun e => absurd e un0, fun _ _ => ?_, fun _ _ pz npz => ?_⟩
      · have kL := k3.trans d9
        exact ⟨_, rfl, rfl, _, rfl, eqNo (by decide)
          ⟨_, rfl, _, rfl, _, rfl, _, rfl, (by show 4 ≤ sizeLine; decide), fin _ _ _ py q us a.what eu9 (kL.tp _ _ e3) iw im hf (T9.mono (by omega)) (kH.trans kL)⟩⟩
      · have kL := k3.trans (d9.trans (.new (S := [t, g]) (o := .tup (us.map V.int ++ vs2.map V.int)) npz))
        exact ⟨_, rfl, rfl, _, rfl, eqNo (by decide)
          ⟨_, rfl, _, rfl, _, rfl, _, rfl, (by show 4 ≤ sizeLine; decide), fin _ _ _ pz q (us ++ vs2) a.what (by rw [List.map_append]; exact upd_same) (kL.tp _ _ e3) iw im hf ((T9.same (same_new npz)).mono (by omega)) (kH.trans kL)⟩⟩
    · have hw : ∃ us : List Int, upd H7 pw (.tup (ms.map V.int ++ [.int y])) pw = some (.tup (us.map V.int)) ∧ us ≠ [] ∧ us.length ≤ 7 := ⟨ms ++ [y], by rw [List.map_append]; exact upd_same, by simp, by rw [List.length_append]; show ms.length + 1 ≤ 7; omega⟩
      have d8 := d7.trans (.new (S := [t, g]) (o := .tup (ms.map V.int ++ [.int y])) npw)
      have T8 := T7.same (same_new (o := .tup (ms.map V.int ++ [.int y])) npw)
      generalize upd H7 pw (.tup (ms.map V.int ++ [.int y])) = H8 at d8 T8 hw
      obtain ⟨us, eus, un, ul⟩ := hw
      have un0 : us.map V.int ≠ [] := fun e => un (by simpa using e)
      refine ⟨_, rfl, _, rfl, _, _, rfl, rfl, ai + 1, rfl, n, _, rfl, sqT (d8.tp _ _ e23), fun hw => ?_, fun _ pv npv => ?_⟩
      · have h0 : (if ai + 1 < 0 then (ai + 1 + ((a.note.map V.int).length : Int)).toNat else min (ai + 1).toNat (a.note.map V.int).length) = 0 := hw.1
        rw [lm, if_neg (by omega)] at h0
        omega
      obtain ⟨vs2, evs, lvs⟩ := cut_ints a.note (some (ai + 1)) none
      rw [evs]
      have d9 := d8.trans (.new (S := [t, g]) (o := .tup (vs2.map V.int)) npv)
      have eu9 : upd H8 pv (.tup (vs2.map V.int)) pw = _ := upd_at eus npv
      have ev9 : upd H8 pv (.tup (vs2.map V.int)) pv = _ := upd_same
      have T9 := T8.same (same_new (o := .tup (vs2.map V.int)) npv)
      generalize upd H8 pv (.tup (vs2.map V.int)) = H9 at d9 eu9 ev9 T9
      refine ⟨pw, pv, _, _, rfl, rfl, sqT eu9, sqT ev9, (by rw [List.length_map, List.length_map]; exact Nat.le_trans (by show us.length + vs2.length ≤ 1000; omega) (by decide)), fun e => absurd e un0, fun _ _ => ?_, fun _ _ pz npz => ?_⟩
      · have kL := k3.trans d9
        exact ⟨_, rfl, rfl, _, rfl, eqNo (by decide)
          ⟨_, rfl, _, rfl, _, rfl, _, rfl, (by show 4 ≤ sizeLine; decide), fin _ _ _ pw q us a.what eu9 (kL.tp _ _ e3) iw im hf (T9.mono (by omega)) (kH.trans kL)⟩⟩
      · have kL := k3.trans (d9.trans (.new (S := [t, g]) (o := .tup (us.map V.int ++ vs2.map V.int)) npz))
        exact ⟨_, rfl, rfl, _, rfl, eqNo (by decide)
          ⟨_, rfl, _, rfl, _, rfl, _, rfl, (by show 4 ≤ sizeLine; decide), fin _ _ _ pz q (us ++ vs2) a.what (by rw [List.map_append]; exact upd_same) (kL.tp _ _ e3) iw im hf ((T9.same (same_new npz)).mono (by omega)) (kH.trans kL)⟩⟩
  · refine ⟨_, rfl, rfl, _, rfl, eqNo (by decide) ⟨_, rfl, rfl, _, rfl, eqNo (by decide) ⟨_, rfl, rfl, _, rfl, eqNo (by decide) ⟨_, rfl, rfl, _, rfl, eqNo (by decide) ⟨_, rfl, rfl, _, rfl, eqYes ?_⟩⟩⟩⟩⟩
    refine ⟨_, rfl, _, rfl, _, _, rfl, rfl, _, rfl, _, rfl, _, rfl, _, rfl, _, _, rfl, rfl, _, rfl, _, _, rfl, rfl, _, rfl, _, _, rfl, rfl, (by show 8 ≤ sizeLine; decide), fun pl npl => ?_⟩
    refine ⟨_, rfl, t, g, _, 8, rfl, T2.same (same_new npl), by omega, by decide, by decide, fun H3 j j0 j5 T3 k3 => ?_⟩
    obtain ⟨z, ez⟩ : ∃ z : Int, atI ([.int a.who, .int (a.who - 1), .int 0, .int (-1), .int (many : Int), .int ((many : Int) + (1 + far)), .int ((many : Int) - 1), .int (0 - (1 + far))] : List V) j = some (.int z) := by
      have e : j = 0 ∨ j = 1 ∨ j = 2 ∨ j = 3 ∨ j = 4 ∨ j = 5 ∨ j = 6 ∨ j = 7 := by omega
      rcases e with rfl | rfl | rfl | rfl | rfl | rfl | rfl | rfl <;> exact ⟨_, rfl⟩
    have kL := (Kp.new (S := [t, g]) npl).trans k3
    refine ⟨pl, _, _, _, rfl, rfl, sqL (k3.lst upd_same (T2.neT npl)), ez, ?_⟩
    refine ⟨(by show 2 ≤ sizeLine; decide), fun p4 np4 => ?_⟩
    refine ⟨_, rfl, t, g, _, 2, rfl, T3.same (same_new np4), by omega, by decide, by decide, fun H4 i i0 i2 T4 k4 => ?_⟩
    have kM := (Kp.new (S := [t, g]) np4).trans k4
    have hi : i = 0 ∨ i = 1 := by omega
    refine ⟨p4, [.str "give", .str "take"], i, .str (if i = 0 then "give" else "take"), rfl, rfl, sqL (k4.lst upd_same (T3.neT np4)), (by rcases hi with rfl | rfl <;> rfl), ?_⟩
    refine ⟨(by show 2 ≤ sizeLine; decide), fun p5 np5 => ?_⟩
    refine ⟨_, rfl, t, g, _, 2, rfl, T4.same (same_new np5), by omega, by decide, by decide, fun H5 l l0 l2 T5 k5 => ?_⟩
    have kO := (Kp.new (S := [t, g]) np5).trans k5
    have hl2 : l = 0 ∨ l = 1 := by omega
    refine ⟨p5, [.str "use", .str "lead"], l, .str (if l = 0 then "use" else "lead"), rfl, rfl, sqL (k5.lst upd_same (T4.neT np5)), (by rcases hl2 with rfl | rfl <;> rfl), ?_⟩
    have kA := (kL.trans kM).trans kO
    refine ⟨_, rfl, (by show 4 ≤ sizeLine; decide), fun q5 nq5 => ?_⟩
    have kQ := kA.trans (Kp.new (S := [t, g]) (o := .tup [.str (if i = 0 then "give" else "take"), .str "a", .str (if l = 0 then "use" else "lead"), .int z]) nq5)
    refine ⟨_, rfl, _, rfl, _, rfl, _, rfl, (by show 4 ≤ sizeLine; decide), fin _ _ _ n q5 a.note (if i = 0 then .give "a" (if l = 0 then "use" else "lead") z else .take "a" (if l = 0 then "use" else "lead") z) (kQ.tp _ _ e2) ?_ iw im ?_ ((T5.same (same_new nq5)).mono (by omega)) (kH.trans kQ)⟩
    · rcases hi with rfl | rfl <;> exact upd_same
    · rcases hi with rfl | rfl <;> rcases hl2 with rfl | rfl <;> first | exact ⟨by decide +kernel, .inl rfl⟩ | exact ⟨by decide +kernel, .inr rfl⟩
end
end FR

/-! X(..).f: a field of an own error that has just been made. -/
namespace L2
open PySem PySem.Spec PyProof.Rows
def tMadeF (C : Addr) (n : Str) (t : St → Hp → XK → Prop) : TE := fun σ H Q => t σ H fun cls d H1 => cls = .ref C ∧ ∃ (dd : Addr) (fs : List (Str × V)) (v : V), d = some dd ∧ H1 dd = some (.xd fs) ∧ fs.lookup n = some v ∧ Q v H1
theorem pe_madeF {X : Cx} {C : Addr} {e : Expr} {t : St → Hp → XK → Prop} {pos : Pos} {n : Str} (T : XfC X.K C) (hno : PySem.W.findIn X.K (.ref C) n = some none) (he : PMk X e t) (hb : attributeBase e n X.env (eval e X.env) = eval e X.env := by rfl) :
    PE X (.Attribute e n pos) (tMadeF C n t) := by
  refine ⟨fun pins s σ H Q I h => ?_⟩
  refine attr_of hb (thn (he pins s σ H _ I h) fun u s1 hh => ?_)
  obtain ⟨a, oe, vs, sI, H1, cls, d, rfl, I1, k, na, ha, hz, hd, v1, nH, ho', bare, hr, ec, dd, fs, v, ed, ea, l, q⟩ := hh
  subst ec
  subst ed
  have I2 : Inv X pins σ H1 s1 := I1.call' (ch := []) ho' (Un.kept k) (I1.hok.kept k) bare (fun b z => absurd z (by simp))
  have hx : ObjOk X.prog X.w H1 s1.heap dd (.xd fs) := I2.hok dd _ ea
  obtain ⟨mA, hns, hr⟩ := hx
  obtain ⟨od, ho, hl⟩ := lookIn_ns hns
  obtain ⟨u, hu, ru⟩ := RelO.some_of (v := v) (o := mA n) (by rw [← l]; exact hr n)
  have J : PySem.W.InstAt s1.heap a oe C (some od) := ⟨ha, hz.1, by unfold PySem.W.notCls; rw [hd] <;> rfl, by rw [hz.2]; exact ho⟩
  exact HandSPX.exc_get I2.kIn J T.ga T.gg T.exC (PySem.W.findObj_own T.hdC hno rfl (by rw [hl, hu])) (handed_of ru) ⟨v, H1, I2.tok _, ru, q⟩
end L2

/-! An own error made with a keyword. -/
namespace FR
open PySem PySem.Spec PyProof.Rows L2 PySem.HandSPX
section
variable {M : Model} {prog : Program} {w : World} {A : Around} {E : Value → Shared → Prop} {h : Heap} {g : Array GenState} {d : Drawn} {t : Nat} {os : OsState} {R : Result → Shared → Prop}
variable {nm q : Str} {C N : Addr} {bs bm bmB : List Value} {hdct : Bool} {sn : List Str} {sub : List Value} {ab : Bool} {col : Option Bool} {dd : Option Addr} {k0 k1 k2 k3 k5 : Option Value} {B newId initId : String}
theorem kw_check_type {kw : Str × Value} {Q : Unit → Shared → Prop} (hC : h.get? C = some (excClassObj nm q C N bs bm hdct sn sub ab col dd k0 k1 k2 k3 k5 newId))
    (hq : Q () ⟨h, g, d, t, os⟩) : wpAny M A (checkBuiltinCall "type.__call__" ⟨[.ref C], [kw]⟩) Q E ⟨h, g, d, t, os⟩ := by
  have f3 := tc_sub
  have hT : (⟨h, g, d, t, os⟩ : Shared).TypeIs (.ref C) "type" := ⟨_, hC, rfl⟩
  simp only [checkBuiltinCall, tc_kind, tc_split]
  repeat (any_goals (first | assumption | with_reducible refine wpAny_loadPart_at hC ?_ | with_reducible refine wpAny_onRaise ?_ | with_reducible refine wpAny_map ?_ | wp_step))
theorem kw_check_new (F : ExcBaseFacts B newId initId bmB) (hT : ∀ X : String, bm.contains (.type X) = bmB.contains (.type X)) {kw : Str × Value} {Q : Unit → Shared → Prop}
    (hC : h.get? C = some (excClassObj nm q C N bs bm hdct sn sub ab col dd k0 k1 k2 k3 k5 newId)) (hq : Q () ⟨h, g, d, t, os⟩) : wpAny M A (checkBuiltinCall newId ⟨[.ref C], [kw]⟩) Q E ⟨h, g, d, t, os⟩ := by
  have hc : (Value.ref C :: bm).contains (.type B) = true := by rw [List.contains_cons, hT, F.hasB, Bool.or_true]
  have hs := F.noStar
  simp only [checkBuiltinCall, F.newKind, F.newSplit, F.newRow]
  repeat (first | refine wpAny_loadPart_at hC ?_ | (refine wpAny_isSubtype_exc hC ?_; rw [hc]) | refine wpAny_staticBase_exc hC ?_ | refine wpAny_madeBy_exc hC ?_ | simp only [bne_self_eq_false, Bool.false_eq_true, if_false] | wp_step)
  exact hq
theorem kw_new (F : ExcBaseFacts B newId initId bmB) (hT : ∀ X : String, bm.contains (.type X) = bmB.contains (.type X)) {kw : Str × Value}
    (hC : h.get? C = some (excClassObj nm q C N bs bm hdct sn sub ab col dd k0 k1 k2 k3 k5 newId))
    (hq : R (.ok (.ret (.ref (h.objs.size + 1)))) ⟨(h.push (W.kdv_tup [])).push (excO C h.objs.size), g, d, t, os⟩) : codeAny (model prog w) A (.builtin newId ⟨[.ref C], [kw]⟩) R ⟨h, g, d, t, os⟩ := by
  have e1 := F.ends
  have c1 : (Value.ref C :: bm).contains (.type B) = true := by rw [List.contains_cons, hT, F.hasB, Bool.or_true]
  have c2 : (Value.ref C :: bm).contains (.type "AttributeError") = false := by rw [List.contains_cons, hT, F.noAttr]; rfl
  have c3 : (Value.ref C :: bm).contains (.type "NameError") = false := by rw [List.contains_cons, hT, F.noName]; rfl
  have hrest : ([] : List Value).length ≤ sizeLine := Nat.zero_le _
  refine codeAny_builtinAt F.entry ?_
  unfold Builtin.«BaseException.__new__»
  refine PySem.wpAt_bind ?_
  show PySem.wpAt _ _ _ (stack >>= _) _ _ _
  refine PySem.wpAt_bind (PySem.wpAt_stack fun p below => PySem.wpAt_of_wpAny ?_)
  wp_walk
  refine PySem.wpAt_of_wpAny ?_
  rw [F.owner]
  repeat (first | with_reducible refine wpAny_madeHere_exc F.canon hC ?_ | with_reducible refine wpAny_loadPart_at hC ?_ | (with_reducible refine wpAny_isSubtype_exc hC ?_; first | rw [c1] | rw [c2] | rw [c3]) | wp_step)
  show R _ _
  rw [Heap.size_push]
  exact hq
/-- X(k = v), X an own error class with an own __init__ -/
theorem kw_made (F : ExcBaseFacts B newId initId bmB) (hT : ∀ X : String, bm.contains (.type X) = bmB.contains (.type X)) {kw : Str × Value} {fI : Addr}
    (hC : h.get? C = some (excClassObj nm q C N bs bm hdct sn sub ab col dd k0 k1 k2 k3 k5 newId)) (hi : W.Looks (model prog w) h (typeLookup (.ref C) "__init__") (some (.ref fI)))
    (hb : ∀ self, W.Looks (model prog w) h (bindSpecial (.ref fI) self) (.ref fI, [self]))
    (hq : codeAny (model prog w) (A.under (.builtin "type.__call__" ⟨[.ref C], [kw]⟩)) (.call (.ref fI) ⟨[.ref (h.objs.size + 1)], [kw]⟩) (W.InitBack (h.objs.size + 1) R) ⟨(h.push (W.kdv_tup [])).push (excO C h.objs.size), g, d, t, os⟩) :
    codeAny (model prog w) A (.call (.ref C) ⟨[], [kw]⟩) R ⟨h, g, d, t, os⟩ := by
  have f1 := tc_lookup
  have f2 := tc_bind (.ref C)
  have ty : (⟨h, g, d, t, os⟩ : Shared).TypeIs (.ref C) "type" := ⟨_, hC, rfl⟩
  refine codeAny_of_tree ?_
  show wpAny _ _ (callAny (.ref C) _) _ _ _
  repeat (any_goals (first | assumption | with_reducible refine wpAny_loadPart_at hC ?_ | wp_step))
  refine ⟨rfl, codeAny_call_builtin_at (Code.quiet_builtin _ (by decide +kernel)) entry_typeCall (kw_check_type hC ?_)⟩
  repeat (first | with_reducible refine wpAny_loadPart_at hC ?_ | with_reducible refine wpAny_madeBy_exc hC ?_ | wp_step)
  refine codeAny_call_builtin_code (Code.quiet_builtin _ F.quiet) (kw_check_new F hT hC (kw_new F hT hC ?_))
  show wpAny _ _ _ _ _ _
  have k : ∀ b o, h.get? b = some o → ((h.push (W.kdv_tup [])).push (excO C h.objs.size)).get? b = some o := fun b o e => Heap.get?_push_of_some _ (Heap.get?_push_of_some _ e)
  have hC1 := k _ _ hC
  have ge : ((h.push (W.kdv_tup [])).push (excO C h.objs.size)).get? (h.objs.size + 1) = some (excO C h.objs.size) := by heap_get
  have cc : (Value.ref C :: bm).contains (.ref C) = true := by simp
  have i1 := hi.keeps k
  have b1 := (hb (.ref (h.objs.size + 1))).keeps k
  unfold isInstance
  repeat (first | with_reducible refine wpAny_loadPart_at ge ?_ | (with_reducible refine wpAny_isSubtype_exc hC1 ?_; rw [cc]) | wp_step)
  show wpAny _ _ (typeLookup (.ref C) _) _ _ _
  refine i1.at (wpAny_holding (wpAny_bind (b1.at (wpAny_bind (wpAny_call (codeAny_mono hq fun r s' z => ?_))))))
  rcases r with e | (v | _ | _ | _) <;> first | exact z | exact z.elim | skip
  obtain ⟨rfl, z⟩ := z
  first
    | exact wpAny_pure (wpAny_pure z)
    | (wp_walk; exact z)
end
end FR

/-! X(k = v) for an own error X, in the layer. -/
namespace FR
open PySem PySem.Spec PyProof.Rows L2
def tMkK (C : Addr) (sp : Sp) (gV : List V → List V → List V) (tk : TA) : L2.St → Hp → XK → Prop := fun σ H Q => tk σ H fun zs H1 => zs.length = 1 ∧ ∀ a, H1 a = none → sp (gV [.ref a] zs) (upd H1 a (exo a C none))
  (fun v H2 => v = .non ∧ ∃ (d : Addr) (fs : List (Str × V)), H2 a = some (exo a C (some d)) ∧ H2 d = some (exd d fs) ∧ H1 d = none ∧ Q (.ref C) (some d) (upd (del H2 a) d (.xd fs))) (fun _ _ _ => False)
theorem pmk_oexKw {X : Cx} {CX : CXT} {x kn : Str} {C fI : Addr} {k : Nat} {fd : FuncData} {ps : List Str} {sp : Sp} {g : List Value → List Value → List Value} {gV : List V → List V → List V} {kws : List Keyword} {tk : TA} {p pos : Pos} (T : OexC X.K C) (iC : PySem.W.findIn X.K (.ref C) "__init__" = some (some (.ref fI))) (tI : PySem.W.typeIn X.K (.ref fI) = some (.type "function"))
    (F1 : FnOk X.prog X.w X.K X.mg X.base CX k fI fd ps sp) (hr : Room (k + 1) X.A) (hb : KBn X.K fd ps 1 [kn] g gV) (hx : Passes CX X (fun _ _ _ => False)) (hg : Gl X x) (hm : X.mg x = some (.ref C)) (hkw : PK X kws tk)
    (hall : (backToKw pos (keywordEach kws X.env)).all (·.1.isSome) = true := by rfl) (hks : (backToKw pos (keywordEach kws X.env)).filterMap (·.1) = [kn] := by rfl) (hdb : (x == ("__debug__" : Str)) = false := by decide)
    (hpl : ((backTo pos (starEach [] X.env)).any (·.1) || (backToKw pos (keywordEach kws X.env)).any (·.1.isNone)) = false := by rfl) :
    PMk X (.Call (.Name x p) [] kws pos) (tMkK C sp gV tk) := by
  intro pins s σ H Q I h
  obtain ⟨nm, q, N, bs, bm, sn, sub, ab, col, dd, k0, k1, k2, k3, k5, hC, hbm⟩ := T.cls
  refine wpAny_Call_Name_kw (ld_glob I hg hm (PySem.W.callWith_KW0 (h₀ := X.base) I.ok.mod.kin T.kC hall (thn (hkw.run pos pins s σ H _ I h) fun us s1 ⟨vs, H1, I1, r1, h1, hq1⟩ => ⟨I1.kIn, ?_⟩) hpl) hdb)
  rw [hks]
  obtain ⟨hp, gg, dr, tk', os⟩ := s1
  have hlu : us.length = 1 := by rw [← Paired.length r1, h1]
  obtain ⟨u, rfl⟩ : ∃ u, us = [u] := by
    cases us with
    | nil => cases hlu
    | cons a r => cases r with
      | nil => exact ⟨a, rfl⟩
      | cons b r => cases hlu
  have hsz : hp.objs.size ≤ hp.objs.size + 1 := Nat.le_succ _
  have hn : H1 (hp.objs.size + 1) = none := I1.hok.fresh hsz
  have hq := hq1 (hp.objs.size + 1) hn
  have kk : ∀ b o, hp.get? b = some o → ((hp.push (PySem.W.kdv_tup [])).push (PySem.HandSPX.excO C hp.objs.size)).get? b = some o := fun b o e => Heap.get?_push_of_some _ (Heap.get?_push_of_some _ e)
  have hget : ((hp.push (PySem.W.kdv_tup [])).push (PySem.HandSPX.excO C hp.objs.size)).get? (hp.objs.size + 1) = some (PySem.HandSPX.excO C hp.objs.size) := by heap_get
  have I2 : Inv X pins σ (upd H1 (hp.objs.size + 1) (exo (hp.objs.size + 1) C none)) ⟨(hp.push (PySem.W.kdv_tup [])).push (PySem.HandSPX.excO C hp.objs.size), gg, dr, tk', os⟩ :=
    I1.laid (t' := tk') (a := hp.objs.size + 1) (o := exo (hp.objs.size + 1) C none) (h' := (hp.push (PySem.W.kdv_tup [])).push (PySem.HandSPX.excO C hp.objs.size)) kk hsz (exo_ok hget)
  have r2 : Vals (gV [V.ref (hp.objs.size + 1)] vs) (g [Value.ref (hp.objs.size + 1)] [u]) := hb.rel (.cons rfl .nil) r1
  refine wpAny_call (kw_made F.excBase_ValueError (fun Y => PySem.HandSPX.refsVE_contains Y bm hbm) (I1.kIn _ _ hC) (PySem.W.looks_findIn I1.kIn iC) (fun self => PySem.W.bind_fn I1.kIn self tI)
    (codeAny_mono (F1.run _ X.stack _ _ ⟨[Value.ref (hp.objs.size + 1)], [(kn, u)]⟩ (g [Value.ref (hp.objs.size + 1)] [u]) _ _ (fun _ _ _ => False) (hr.make C [] [(kn, u)]) (I2.env0.make C [] [(kn, u)]) (hb.to _ [Value.ref (hp.objs.size + 1)] [u] I2.kIn rfl rfl) r2 hq) fun r s' hq' => ?_))
  cases r with
  | error er => exact hx pins σ _ _ er s' I2 hq'
  | ok fl =>
    cases fl with
    | ret u =>
      obtain ⟨v, H2, os2, bare2, un2, hok2, rv, ev, d, fs, ea, ed, hd1, q2⟩ := hq'
      subst ev
      obtain ⟨h2, g2, d2, t2, os'⟩ := s'
      exact ⟨rv, mk_end (raises_own T.exC T.tyC) I1 hsz kk un2 hok2 os2 bare2 ea ed hd1 q2⟩
    | next => exact False.elim hq'
    | brk => exact False.elim hq'
    | cont => exact False.elim hq'
end FR

namespace FR
open PySem PySem.Spec PyProof.Rows L2 SrtO
abbrev sErrsRight : Stmt := top 29
/-- what an error may be made with -/
inductive Bx
  | i (n : Int)
  | s (x : Str)
  | t (a b : Int)
def BxAt (H : Hp) (v : V) : Bx → Prop
  | .i n => v = .int n
  | .s x => v = .str x
  | .t a b => ∃ q, v = .ref q ∧ H q = some (.tup [.int a, .int b])
def Bx.fit : Bx → Prop
  | .i n => IntOk n
  | .s x => x.length ≤ 1000
  | .t a b => IntOk a ∧ IntOk b
theorem BxAt.same {H H' : Hp} (s : Same H H') {v : V} {x : Bx} (h : BxAt H v x) : BxAt H' v x := by
  cases x with
  | i n => exact h
  | s y => exact h
  | t a b =>
    obtain ⟨q, e, hq⟩ := h
    exact ⟨q, e, s _ _ hq⟩
theorem bx_same {H H' : Hp} (s : Same H H') {vs : List V} {xs : List Bx} (h : Paired (BxAt H) vs xs) : Paired (BxAt H') vs xs := by
  induction h with
  | nil => exact .nil
  | cons a _ ih => exact .cons (a.same s) ih
theorem BxAt.al {H : Hp} {v u : V} {x : Bx} (h : BxAt H v x) (k : BxAt H u x) : Al H 2 v u := by
  cases x with
  | i n =>
    cases h
    cases k
    exact Al.flat rfl
  | s y =>
    cases h
    cases k
    exact Al.flat rfl
  | t a b =>
    obtain ⟨q, rfl, hq⟩ := h
    obtain ⟨r, rfl, hr⟩ := k
    exact Al.tup hq hr (by show 2 ≤ 1000; decide) (.cons (Al.flat rfl) (.cons (Al.flat rfl) .nil))
theorem bx_als {H : Hp} {vs us : List V} {xs : List Bx} (h : Paired (BxAt H) vs xs) (k : Paired (BxAt H) us xs) : Paired (Al H 2) vs us := by
  induction h generalizing us with
  | nil =>
    cases k
    exact .nil
  | cons a _ ih =>
    cases k with
    | cons b r => exact .cons (a.al b) (ih r)
theorem BxAt.said {K : PySem.W.Frag} {H : Hp} {v : V} {x : Bx} (h : BxAt H v x) (f : x.fit) : Said K H v := by
  cases x with
  | i n => exact .inr (.inl ⟨n, h, f⟩)
  | s y => exact .inl ⟨y, h, f⟩
  | t a b =>
    obtain ⟨q, e, hq⟩ := h
    refine .inr (.inr ⟨q, [a, b], e, sqT hq, (by show 2 ≤ 10; decide), fun i m => ?_⟩)
    simp only [List.mem_cons, List.not_mem_nil, or_false] at m
    rcases m with rfl | rfl
    · exact f.1
    · exact f.2
theorem paired_app {α β : Type} {R : α → β → Prop} {as cs : List α} {bs ds : List β} (h : Paired R as bs) (k : Paired R cs ds) : Paired R (as ++ cs) (bs ++ ds) := by
  induction h with
  | nil => exact k
  | cons a _ ih => exact .cons a ih
/-- what an expression tells: a value, things being added to the heap alone -/
def Gb (te : TE) (σ : L2.St) (x : Bx) : Prop := ∀ (H : Hp) (Q : VK), (∀ v H1, Same H H1 → BxAt H1 v x → Q v H1) → te σ H Q
def Gl' (ta : TA) (σ : L2.St) (xs : List Bx) : Prop := ∀ (H : Hp) (Q : List V → Hp → Prop), (∀ vs H1, Same H H1 → Paired (BxAt H1) vs xs → Q vs H1) → ta σ H Q
theorem gl_nil {σ : L2.St} : Gl' tNil σ [] := fun H Q q => q [] H (.refl _) .nil
theorem gl_cons {σ : L2.St} {te : TE} {ta : TA} {x : Bx} {xs : List Bx} (h : Gb te σ x) (r : Gl' ta σ xs) : Gl' (tCons te ta) σ (x :: xs) := fun H Q q =>
  h H _ fun v H1 s1 b => r H1 _ fun vs H2 s2 p => q (v :: vs) H2 (s1.trans s2) (.cons (b.same s2) p)
theorem gb_var {σ : L2.St} {i : Nat} {n : Int} (h : σ[i]? = some (some (V.int n))) : Gb (tVar i) σ (.i n) := fun H Q q => ⟨_, h, q _ H (.refl _) rfl⟩
theorem gb_int {σ : L2.St} {n : Int} : Gb (tC (.int n)) σ (.i n) := fun H Q q => q _ H (.refl _) rfl
theorem gb_neg {σ : L2.St} {n : Int} : Gb (tUn (rU fun i => .int (-i)) (tC (.int n))) σ (.i (-n)) := fun H Q q => ⟨_, rfl, q _ H (.refl _) rfl⟩
theorem gb_str {σ : L2.St} {x : Str} : Gb (tC (.str x)) σ (.s x) := fun H Q q => q _ H (.refl _) rfl
theorem gb_tup {σ : L2.St} {ta : TA} {a b : Int} (h : Gl' ta σ [.i a, .i b]) : Gb (tTup ta) σ (.t a b) := fun H Q q => h H _ fun vs H1 s1 p => by
  cases p with
  | cons e1 r => cases r with
    | cons e2 r =>
      cases r
      cases e1
      cases e2
      exact ⟨(by rw [sizeLine_eq]; show 2 ≤ _; omega), fun z nz => q _ _ (s1.trans (same_new nz)) ⟨z, rfl, upd_same⟩⟩
theorem gb_made {K : PySem.W.Frag} {C : Addr} {σ : L2.St} {ta : TA} {x : Bx} (f : x.fit) (h : Gl' ta σ [x]) : Gb (tMadeF C "what" (tMkO C (spInit K C) [] ta)) σ x := fun H Q q => h H _ fun vs H1 s1 p => by
  cases p with
  | cons b r =>
    cases r
    exact ⟨(by show 1 ≤ 1000; decide), made_err (Q := fun cls d H1 => cls = Value.ref C ∧ ∃ (dd : Addr) (fs : List (Str × V)) (v : V), d = some dd ∧ H1 dd = some (.xd fs) ∧ fs.lookup ("what" : Str) = some v ∧ Q v H1) (E := fun _ _ _ => False) (b.said f) fun d H2 s2 nd ed => ⟨rfl, d, _, _, rfl, ed, rfl, q _ _ (s1.trans s2) (b.same s2)⟩⟩
theorem gb_madeK {K : PySem.W.Frag} {C : Addr} {σ : L2.St} {ta : TA} {x : Bx} (f : x.fit) (h : Gl' ta σ [x]) : Gb (tMadeF C "what" (tMkK C (spInit K C) (fun us ws => us ++ ws) ta)) σ x := fun H Q q => h H _ fun vs H1 s1 p => by
  cases p with
  | cons b r =>
    cases r
    exact ⟨rfl, made_err (Q := fun cls d H1 => cls = Value.ref C ∧ ∃ (dd : Addr) (fs : List (Str × V)) (v : V), d = some dd ∧ H1 dd = some (.xd fs) ∧ fs.lookup ("what" : Str) = some v ∧ Q v H1) (E := fun _ _ _ => False) (b.said f) fun d H2 s2 nd ed => ⟨rfl, d, _, _, rfl, ed, rfl, q _ _ (s1.trans s2) (b.same s2)⟩⟩
theorem gl_lst {σ : L2.St} {ta : TA} {xs : List Bx} (h : Gl' ta σ xs) (hx : xs.length ≤ 1000) {H : Hp} {Q : VK} (q : ∀ p vs H1, Same H H1 → H p = none → H1 p = some (.lst vs) → Paired (BxAt H1) vs xs → Q (.ref p) H1) : tLst ta σ H Q := h H _ fun vs H1 s1 p => by
  have hl := paired_len p
  refine ⟨(by rw [sizeLine_eq]; omega), fun z nz => q z vs _ (s1.trans (same_new nz)) (s1.free nz) upd_same (bx_same (same_new nz) p)⟩
theorem gl_cat {σ : L2.St} {ta : TA} {xs ys : List Bx} {i : Nat} {l : Addr} {vs : List V} {H : Hp} {Q : VK} (h : Gl' ta σ ys) (hi : σ[i]? = some (some (V.ref l))) (hl : H l = some (.lst vs)) (pv : Paired (BxAt H) vs xs) (hx : xs.length + ys.length ≤ 1000)
    (q : ∀ p vs H1, Same H H1 → H p = none → H1 p = some (.lst vs) → Paired (BxAt H1) vs (xs ++ ys) → Q (.ref p) H1) : tOp rCat (tVar i) (tLst ta) σ H Q := by
  refine ⟨_, hi, gl_lst h (by omega) fun p us H1 s1 np ep pu => ?_⟩
  have l1 := paired_len pv
  have l2 := paired_len pu
  refine ⟨l, p, vs, us, rfl, rfl, s1 _ _ hl, ep, (by rw [sizeLine_eq]; omega), fun z nz => q z _ _ (s1.trans (same_new nz)) (s1.free nz) upd_same (bx_same (same_new nz) (paired_app (bx_same s1 pv) pu))⟩
theorem gl_args {σ : L2.St} {ta : TA} {xs : List Bx} {i : Nat} {l : Addr} {H : Hp} {Q : List V → Hp → Prop} (h : Gl' ta σ xs) (hi : σ[i]? = some (some (V.ref l))) (hx : xs.length ≤ 1000) (q : ∀ p vs H1, Same H H1 → H p = none → H1 p = some (.lst vs) → Paired (BxAt H1) vs xs → Q [.ref l, .ref p] H1) :
    tCons (tVar i) (tCons (tLst ta) tNil) σ H Q := ⟨_, hi, gl_lst h hx q⟩
/-- an error class of the module, and what is asked of its makings -/
structure ErrM (P : Program) (w : World) (K : PySem.W.Frag) (mg : Str → Option Value) (base : Heap) (k : Nat) (x : Str) (C fI : Addr) (fd : FuncData) : Prop where
  er : ErrC P w K mg base k x C fI fd
  xf : XfC K C
  nw : PySem.W.findIn K (.ref C) "what" = some none
  kw : KBn K fd ["self", "what"] 1 ["what"] (fun us ws => us ++ ws) (fun us ws => us ++ ws)
def spErrs : Sp := fun vs H Q _ => ∃ n : Nat, vs = [.int n] ∧ n ≤ 1000 ∧ ∀ H', Same H H' → Q (.bl true) H'
section
variable {P : Program} {w : World} {K : PySem.W.Frag} {mg : Str → Option Value} {base : Heap}
abbrev nErrsRight : List Str := ["number", "ahead", "behind"]
theorem scErrsRight : FnScope nErrsRight ["number"] (defScope sErrsRight) := ⟨rfl, rfl, rfl, by decide +kernel, rfl, by decide +kernel, by decide +kernel⟩
theorem ok_errs {k j : Nat} {c fI : Nat → Addr} {fdI : Nat → FuncData} {f fL : Addr} {fd fdL : FuncData} (F : Fun K "_law_errors_right" "_law_errors_right" sErrsRight f fd) (hj : j + 1 ≤ k)
    (M0 : ErrM P w K mg base j "NoDeed" (c 0) (fI 0) (fdI 0)) (M1 : ErrM P w K mg base j "NoKind" (c 1) (fI 1) (fdI 1)) (M2 : ErrM P w K mg base j "NoMark" (c 2) (fI 2) (fdI 2)) (M3 : ErrM P w K mg base j "NoMember" (c 3) (fI 3) (fdI 3))
    (M4 : ErrM P w K mg base j "NoMembers" (c 4) (fI 4) (fdI 4)) (M5 : ErrM P w K mg base j "NoText" (c 5) (fI 5) (fdI 5)) (M6 : ErrM P w K mg base j "NoUse" (c 6) (fI 6) (fdI 6)) (M7 : ErrM P w K mg base j "TwoFaced" (c 7) (fI 7) (fdI 7))
    (L : Cal P w K mg base k "_law_alike" ["found", "due"] (spAlike 3) fL fdL) : FnOk P w K mg base CX0 (k + 1) f fd ["number"] spErrs := by
  refine F.ok scErrsRight (fun vs H Q E h => ?_) (fun cdv A outer s H vs Q E hr h => ?_)
  · obtain ⟨n, rfl, _⟩ := h
    rfl
  obtain ⟨n, rfl, hn, out⟩ := h
  refine ⟨_, (pss_cons (ps_set (i := 1) scErrsRight.nd rfl (.inl rfl) (pe_lst (pa_cons (pe_madeF M4.xf M4.nw (pmk_oex (CX := CX0) M4.er.ow M4.er.iC M4.er.tI M4.er.ok (hr.mono hj) M4.er.b .nil (fun _ _ _ _ _ _ _ h => h.elim) (by rfl) M4.er.m (pa_cons (pv 0) pa_nil))) (pa_cons (pe_madeF M0.xf M0.nw (pmk_oex (CX := CX0) M0.er.ow M0.er.iC M0.er.tI M0.er.ok (hr.mono hj) M0.er.b .nil (fun _ _ _ _ _ _ _ h => h.elim) (by rfl) M0.er.m (pa_cons (pe_tup (pa_cons pe_int (pa_cons (pv 0) pa_nil))) pa_nil))) (pa_cons (pe_madeF M7.xf M7.nw (pmk_oex (CX := CX0) M7.er.ow M7.er.iC M7.er.tI M7.er.ok (hr.mono hj) M7.er.b .nil (fun _ _ _ _ _ _ _ h => h.elim) (by rfl) M7.er.m (pa_cons (pe_tup (pa_cons pe_int (pa_cons pe_int pa_nil))) pa_nil))) (pa_cons (pe_madeF M3.xf M3.nw (pmk_oex (CX := CX0) M3.er.ow M3.er.iC M3.er.tI M3.er.ok (hr.mono hj) M3.er.b .nil (fun _ _ _ _ _ _ _ h => h.elim) (by rfl) M3.er.m (pa_cons (pv 0) pa_nil))) pa_nil))))))
    (pss_cons (ps_set (i := 1) scErrsRight.nd rfl (.inl rfl) (pe_op op_cat (pv 1) (pe_lst (pa_cons (pe_madeF M1.xf M1.nw (pmk_oex (CX := CX0) M1.er.ow M1.er.iC M1.er.tI M1.er.ok (hr.mono hj) M1.er.b .nil (fun _ _ _ _ _ _ _ h => h.elim) (by rfl) M1.er.m (pa_cons pe_str pa_nil))) (pa_cons (pe_madeF M2.xf M2.nw (pmk_oex (CX := CX0) M2.er.ow M2.er.iC M2.er.tI M2.er.ok (hr.mono hj) M2.er.b .nil (fun _ _ _ _ _ _ _ h => h.elim) (by rfl) M2.er.m (pa_cons (pe_tup (pa_cons (pv 0) (pa_cons pe_int pa_nil))) pa_nil))) (pa_cons (pe_madeF M6.xf M6.nw (pmk_oex (CX := CX0) M6.er.ow M6.er.iC M6.er.tI M6.er.ok (hr.mono hj) M6.er.b .nil (fun _ _ _ _ _ _ _ h => h.elim) (by rfl) M6.er.m (pa_cons (pe_tup (pa_cons pe_int (pa_cons pe_int pa_nil))) pa_nil))) (pa_cons (pe_madeF M5.xf M5.nw (pmk_oex (CX := CX0) M5.er.ow M5.er.iC M5.er.tI M5.er.ok (hr.mono hj) M5.er.b .nil (fun _ _ _ _ _ _ _ h => h.elim) (by rfl) M5.er.m (pa_cons pe_str pa_nil))) pa_nil)))))))
    (pss_cons (ps_set (i := 2) scErrsRight.nd rfl (.inl rfl) (pe_lst (pa_cons (pe_madeF M4.xf M4.nw (pmk_oexKw (CX := CX0) M4.er.ow M4.er.iC M4.er.tI M4.er.ok (hr.mono hj) M4.kw (fun _ _ _ _ _ _ _ h => h.elim) (by rfl) M4.er.m (pk_cons pe_int pk_nil))) (pa_cons (pe_madeF M0.xf M0.nw (pmk_oexKw (CX := CX0) M0.er.ow M0.er.iC M0.er.tI M0.er.ok (hr.mono hj) M0.kw (fun _ _ _ _ _ _ _ h => h.elim) (by rfl) M0.er.m (pk_cons (pe_tup (pa_cons (pe_un un_neg pe_int) (pa_cons pe_int pa_nil))) pk_nil))) (pa_cons (pe_madeF M7.xf M7.nw (pmk_oexKw (CX := CX0) M7.er.ow M7.er.iC M7.er.tI M7.er.ok (hr.mono hj) M7.kw (fun _ _ _ _ _ _ _ h => h.elim) (by rfl) M7.er.m (pk_cons (pe_tup (pa_cons pe_int (pa_cons pe_int pa_nil))) pk_nil))) (pa_cons (pe_madeF M3.xf M3.nw (pmk_oexKw (CX := CX0) M3.er.ow M3.er.iC M3.er.tI M3.er.ok (hr.mono hj) M3.kw (fun _ _ _ _ _ _ _ h => h.elim) (by rfl) M3.er.m (pk_cons (pe_un un_neg pe_int) pk_nil))) pa_nil))))))
    (pss_cons (ps_set (i := 2) scErrsRight.nd rfl (.inl rfl) (pe_op op_cat (pv 2) (pe_lst (pa_cons (pe_madeF M1.xf M1.nw (pmk_oexKw (CX := CX0) M1.er.ow M1.er.iC M1.er.tI M1.er.ok (hr.mono hj) M1.kw (fun _ _ _ _ _ _ _ h => h.elim) (by rfl) M1.er.m (pk_cons pe_str pk_nil))) (pa_cons (pe_madeF M2.xf M2.nw (pmk_oexKw (CX := CX0) M2.er.ow M2.er.iC M2.er.tI M2.er.ok (hr.mono hj) M2.kw (fun _ _ _ _ _ _ _ h => h.elim) (by rfl) M2.er.m (pk_cons (pe_tup (pa_cons pe_int (pa_cons pe_int pa_nil))) pk_nil))) (pa_cons (pe_madeF M6.xf M6.nw (pmk_oexKw (CX := CX0) M6.er.ow M6.er.iC M6.er.tI M6.er.ok (hr.mono hj) M6.kw (fun _ _ _ _ _ _ _ h => h.elim) (by rfl) M6.er.m (pk_cons (pe_tup (pa_cons pe_int (pa_cons pe_int pa_nil))) pk_nil))) (pa_cons (pe_madeF M5.xf M5.nw (pmk_oexKw (CX := CX0) M5.er.ow M5.er.iC M5.er.tI M5.er.ok (hr.mono hj) M5.kw (fun _ _ _ _ _ _ _ h => h.elim) (by rfl) M5.er.m (pk_cons pe_str pk_nil))) pa_nil)))))))
    (pss_cons (ps_if (pt_not (pt_val (pe_call L.ok hr (by rfl) L.m L.kp L.b .nil pass0 (pa_cons (pv 1) (pa_cons (pe_lst (pa_cons (pv 0) (pa_cons (pe_tup (pa_cons pe_int (pa_cons (pv 0) pa_nil))) (pa_cons (pe_tup (pa_cons pe_int (pa_cons pe_int pa_nil))) (pa_cons (pv 0) (pa_cons pe_str (pa_cons (pe_tup (pa_cons (pv 0) (pa_cons pe_int pa_nil))) (pa_cons (pe_tup (pa_cons pe_int (pa_cons pe_int pa_nil))) (pa_cons pe_str pa_nil))))))))) pa_nil)))))
      (pss_one (ps_ret pe_bl))
      pss_nil)
    (pss_one (ps_ret (pe_call L.ok hr (by rfl) L.m L.kp L.b .nil pass0 (pa_cons (pv 2) (pa_cons (pe_lst (pa_cons pe_int (pa_cons (pe_tup (pa_cons (pe_un un_neg pe_int) (pa_cons pe_int pa_nil))) (pa_cons (pe_tup (pa_cons pe_int (pa_cons pe_int pa_nil))) (pa_cons (pe_un un_neg pe_int) (pa_cons pe_str (pa_cons (pe_tup (pa_cons pe_int (pa_cons pe_int pa_nil))) (pa_cons (pe_tup (pa_cons pe_int (pa_cons pe_int pa_nil))) (pa_cons pe_str pa_nil))))))))) pa_nil)))))))))), ?_⟩
  have fit : ∀ m : Int, -1000 ≤ m → m ≤ 1000 → IntOk m := fun m h1 h2 => intOk_inB (by omega) (by omega)
  have fi : ∀ m : Int, -1000 ≤ m → m ≤ 1000 → (Bx.i m).fit := fit
  have fn : IntOk (n : Int) := fit n (by omega) (by omega)
  have f0 : IntOk 0 := fit 0 (by omega) (by omega)
  have f1 : IntOk 1 := fit 1 (by omega) (by omega)
  have f2 : IntOk 2 := fit 2 (by omega) (by omega)
  have f5 : IntOk 5 := fit 5 (by omega) (by omega)
  have fm : IntOk (-1) := fit (-1) (by omega) (by omega)
  unfold tSeq tAsg gName
  dsimp only
  refine gl_lst (gl_cons (gb_made (x := .i n) fn (gl_cons (gb_var rfl) gl_nil)) (gl_cons (gb_made (x := .t 0 n) ⟨f0, fn⟩ (gl_cons (gb_tup (gl_cons gb_int (gl_cons (gb_var rfl) gl_nil))) gl_nil))
    (gl_cons (gb_made (x := .t 1 2) ⟨f1, f2⟩ (gl_cons (gb_tup (gl_cons gb_int (gl_cons gb_int gl_nil))) gl_nil)) (gl_cons (gb_made (x := .i n) fn (gl_cons (gb_var rfl) gl_nil)) gl_nil)))) (by show 4 ≤ 1000; decide) fun l1 v1 H1 s1 n1 e1 p1 => ?_
  refine gl_cat (xs := [.i n, .t 0 n, .t 1 2, .i n]) (gl_cons (gb_made (x := .s "lead") (by show (4 : Nat) ≤ 1000; decide) (gl_cons gb_str gl_nil)) (gl_cons (gb_made (x := .t n 1) ⟨fn, f1⟩ (gl_cons (gb_tup (gl_cons (gb_var rfl) (gl_cons gb_int gl_nil))) gl_nil))
    (gl_cons (gb_made (x := .t 0 1) ⟨f0, f1⟩ (gl_cons (gb_tup (gl_cons gb_int (gl_cons gb_int gl_nil))) gl_nil)) (gl_cons (gb_made (x := .s "a") (by show (1 : Nat) ≤ 1000; decide) (gl_cons gb_str gl_nil)) gl_nil)))) rfl e1 p1 (by show 8 ≤ 1000; decide) fun l2 v2 H2 s2 n2 e2 p2 => ?_
  refine gl_lst (gl_cons (gb_madeK (x := .i 0) f0 (gl_cons gb_int gl_nil)) (gl_cons (gb_madeK (x := .t (-1) 0) ⟨fm, f0⟩ (gl_cons (gb_tup (gl_cons gb_neg (gl_cons gb_int gl_nil))) gl_nil))
    (gl_cons (gb_madeK (x := .t 0 1) ⟨f0, f1⟩ (gl_cons (gb_tup (gl_cons gb_int (gl_cons gb_int gl_nil))) gl_nil)) (gl_cons (gb_madeK (x := .i (-1)) fm (gl_cons gb_neg gl_nil)) gl_nil)))) (by show 4 ≤ 1000; decide) fun l3 v3 H3 s3 n3 e3 p3 => ?_
  refine gl_cat (xs := [.i 0, .t (-1) 0, .t 0 1, .i (-1)]) (gl_cons (gb_madeK (x := .s "") (by show (0 : Nat) ≤ 1000; decide) (gl_cons gb_str gl_nil)) (gl_cons (gb_madeK (x := .t 5 5) ⟨f5, f5⟩ (gl_cons (gb_tup (gl_cons gb_int (gl_cons gb_int gl_nil))) gl_nil))
    (gl_cons (gb_madeK (x := .t 2 1) ⟨f2, f1⟩ (gl_cons (gb_tup (gl_cons gb_int (gl_cons gb_int gl_nil))) gl_nil)) (gl_cons (gb_madeK (x := .s "") (by show (0 : Nat) ≤ 1000; decide) (gl_cons gb_str gl_nil)) gl_nil)))) rfl e3 p3 (by show 8 ≤ 1000; decide) fun l4 v4 H4 s4 n4 e4 p4 => ?_
  unfold tIfS tNot tB tCall tRet tNext
  dsimp only
  refine gl_args (xs := [.i n, .t 0 n, .t 1 2, .i n, .s "lead", .t n 1, .t 0 1, .s "a"]) (gl_cons (gb_var rfl) (gl_cons (gb_tup (gl_cons gb_int (gl_cons (gb_var rfl) gl_nil))) (gl_cons (gb_tup (gl_cons gb_int (gl_cons gb_int gl_nil))) (gl_cons (gb_var rfl) (gl_cons gb_str
    (gl_cons (gb_tup (gl_cons (gb_var rfl) (gl_cons gb_int gl_nil))) (gl_cons (gb_tup (gl_cons gb_int (gl_cons gb_int gl_nil))) (gl_cons gb_str gl_nil)))))))) rfl (by show 8 ≤ 1000; decide) fun l5 v5 H5 s5 n5 e5 p5 => ?_
  have al1 : Al H5 3 (.ref l2) (.ref l5) := Al.list ((s3.trans (s4.trans s5)) _ _ e2) e5 (by have z := paired_len p2; simp at z; omega) (bx_als (bx_same (s3.trans (s4.trans s5)) p2) p5)
  refine ⟨_, _, rfl, al1, fun H6 s6 => ⟨_, rfl, iteF ?_⟩⟩
  refine gl_args (xs := [.i 0, .t (-1) 0, .t 0 1, .i (-1), .s "", .t 5 5, .t 2 1, .s ""]) (gl_cons gb_int (gl_cons (gb_tup (gl_cons gb_neg (gl_cons gb_int gl_nil))) (gl_cons (gb_tup (gl_cons gb_int (gl_cons gb_int gl_nil))) (gl_cons gb_neg (gl_cons gb_str
    (gl_cons (gb_tup (gl_cons gb_int (gl_cons gb_int gl_nil))) (gl_cons (gb_tup (gl_cons gb_int (gl_cons gb_int gl_nil))) (gl_cons gb_str gl_nil)))))))) rfl (by show 8 ≤ 1000; decide) fun l7 v7 H7 s7 n7 e7 p7 => ?_
  have al2 : Al H7 3 (.ref l4) (.ref l7) := Al.list ((s5.trans (s6.trans s7)) _ _ e4) e7 (by have z := paired_len p4; simp at z; omega) (bx_als (bx_same (s5.trans (s6.trans s7)) p4) p7)
  exact ⟨_, _, rfl, al2, fun H8 s8 => out H8 (s1.trans (s2.trans (s3.trans (s4.trans (s5.trans (s6.trans (s7.trans s8)))))))⟩
end
end FR


namespace FR
open PySem PySem.Spec PyProof.Rows L2 SrtO
abbrev sIsGood : Stmt := top 27
abbrev nIsGood : List Str := ["many", "act", "who", "number", "note", "deal", "one"]
def Act.isGood (a : Act) (many : Int) : Bool := a.markOk many && (a.noteOk many && a.what.downOk a.who many)
theorem Act.isGood_iff (a : Act) (many : Nat) : a.isGood many = true ↔ a.good many := by
  unfold Act.isGood Act.good
  simp only [Bool.and_eq_true]
/-- _law_is_good -/
def spIsGood : Sp := fun vs H Q _ => ∃ (p : Addr) (many : Nat) (a : Act), vs = [.int many, .ref p] ∧ ActAt H p a ∧ many ≤ 6 ∧ ∀ H', Same H H' → Q (.bl (a.isGood many)) H'
theorem neg_all (ns : List Int) : ((ns.filter fun x => decide (x < 0)).isEmpty) = ns.all fun x => decide (0 ≤ x) := by
  induction ns with
  | nil => rfl
  | cons x r ih =>
    by_cases h : x < 0
    · rw [List.filter_cons_of_pos (by simpa using h), List.all_cons, show decide (0 ≤ x) = false from decide_eq_false (by omega)]
      rfl
    · rw [List.filter_cons_of_neg (by simpa using h), List.all_cons, show decide (0 ≤ x) = true from decide_eq_true (by omega), Bool.true_and, ih]
theorem iteNT {c A B : Prop} [Decidable c] (hc : ¬ c) (h : A) : if (!decide c) = true then A else B := by
  rw [decide_eq_false hc]
  exact iteT h
section
variable {P : Program} {w : World} {K : PySem.W.Frag} {mg : Str → Option Value} {base : Heap}
theorem scIsGood : FnScope nIsGood ["many", "act"] (defScope sIsGood) := ⟨rfl, rfl, rfl, by decide +kernel, rfl, by decide +kernel, by decide +kernel⟩
theorem ok_isGood {f : Addr} {fd : FuncData} {k : Nat} (F : Fun K "_law_is_good" "_law_is_good" sIsGood f fd) (B : Blt mg) : FnOk P w K mg base CX0 (k + 1) f fd ["many", "act"] spIsGood := by
  refine F.ok scIsGood (fun vs H Q E h => ?_) (fun cdv A outer s H vs Q E hr h => ?_)
  · obtain ⟨p, many, a, rfl, _⟩ := h
    rfl
  obtain ⟨p, many, a, rfl, ha, b6, out⟩ := h
  obtain ⟨n, q, h1, h2, h3⟩ := ha
  refine ⟨_, pss_cons (ps_asg (pv 1) (pg_tup rfl (pgs_cons (pg_name (i := 2) scIsGood.nd rfl (.inl rfl)) (pgs_cons (pg_name (i := 3) scIsGood.nd rfl (.inl rfl)) (pgs_cons (pg_name (i := 4) scIsGood.nd rfl (.inl rfl)) (pgs_cons (pg_name (i := 5) scIsGood.nd rfl (.inl rfl)) pgs_nil))))))
    (pss_cons (ps_if (PW.pt (pw_or (pt_cmpR op_lt (pv 2) pe_int (nomark _)) (pw_or (pt_cmpR op_ge (pv 2) (pv 0) (nomark _)) (pw_or (pt_cmpR op_lt (pv 3) pe_int (nomark _))
        (pw_or1 (pt_cmpR op_ne (pe_callB call_len_seq (by rfl) B.len PySem.boot_len (pa_cons (pv 4) pa_nil)) (pv 0) (nomark _))))))) (pss_one (ps_ret pe_bl)) pss_nil)
    (pss_cons (ps_if (PW.pt (pw_or (pt_cmpR (op_neD hr.units) (pe_lc (own := [("one", 6)]) (g := gName 6) rfl scIsGood.nd (pi_tup (pv 4))
            (blkOk_by (N := nIsGood) (sc := defScope sIsGood) (by decide +kernel)) (fun _ _ _ _ _ => pg_name (i := 6) scIsGood.nd rfl (Or.inl rfl))
            (fun _ _ _ _ _ => pts_one (pt_cmpR op_lt (pv 6) pe_int (nomark _)))
            (fun _ _ _ _ _ => pv 6)) (pe_lst pa_nil) (nomark _))
        (pw_or1 (pt_cmpR op_ne (pe_op op_add (pe_ix ix_tup (pv 4) (pv 2) (fun _ _ => rfl)) pe_int) (pv 3) (nomark _))))) (pss_one (ps_ret pe_bl)) pss_nil)
    (pss_one (ps_ret (pe_or (pe_cmpR op_eq (pe_ix ix_tup (pv 5) pe_int (fun _ _ => rfl)) pe_str (nomark _))
      (pe_one (pe_and (pe_cmpR op_gt (pe_ix ix_tup (pv 5) pe_int (fun _ _ => rfl)) (pv 2) (nomark _)) (pe_one (pe_cmpR op_lt (pe_ix ix_tup (pv 5) pe_int (fun _ _ => rfl)) (pv 0) (nomark _)))))))))), ?_⟩
  refine ⟨_, rfl, p, _, rfl, sqT h1, rfl, _, _, rfl, _, _, rfl, _, _, rfl, _, _, rfl, rfl, ?_⟩
  have bad : a.isGood many = false → ∀ H', Same H H' → Q (.bl false) H' := fun e H' s' => by
    have o := out H' s'
    rw [e] at o
    exact o
  refine ⟨_, rfl, _, _, rfl, rfl, _, rfl, ite2 (fun c => iteT (bad ?_ _ (.refl _))) (fun c => ?_)⟩
  · have c : a.who < 0 := of_decide_eq_true c
    unfold Act.isGood Act.markOk
    rw [decide_eq_false (show ¬ 0 ≤ a.who by omega)]
    rfl
  have c0 : 0 ≤ a.who := by
    have c : ¬ a.who < 0 := fun h => c (decide_eq_true h)
    omega
  refine ⟨_, rfl, _, rfl, _, _, rfl, rfl, _, rfl, ite2 (fun c => iteT (bad ?_ _ (.refl _))) (fun c => ?_)⟩
  · have c : (many : Int) ≤ a.who := of_decide_eq_true c
    unfold Act.isGood Act.markOk
    rw [decide_eq_false (show ¬ a.who < (many : Int) by omega), Bool.and_false]
    rfl
  have c1 : a.who < (many : Int) := by
    have c : ¬ (many : Int) ≤ a.who := fun h => c (decide_eq_true h)
    omega
  refine ⟨_, rfl, _, _, rfl, rfl, _, rfl, ite2 (fun c => iteT (bad ?_ _ (.refl _))) (fun c => ?_)⟩
  · have c : a.num < 1 := of_decide_eq_true c
    unfold Act.isGood Act.markOk
    rw [decide_eq_false (show ¬ 1 ≤ a.num by omega), Bool.and_false]
    rfl
  have c2 : 1 ≤ a.num := by
    have c : ¬ a.num < 1 := fun h => c (decide_eq_true h)
    omega
  have mk : a.markOk many = true := by
    unfold Act.markOk
    rw [decide_eq_true c0, decide_eq_true c1, decide_eq_true c2]
    rfl
  refine ⟨_, rfl, n, _, rfl, .inr (sqT h2), _, rfl, rfl, _, rfl, ?_⟩
  rw [List.length_map]
  by_cases cl : a.note.length = many
  · refine iteNS (by rw [cl]) ?_
    refine ⟨_, rfl, n, rfl, ⟨_, sqT h2⟩, fun D nD => ?_⟩
    refine lc_tup (K := K) (a := n) (xs := a.note.map V.int) (fun i H' => H' D = some (.lst (((a.note.take i).filter fun x => decide (x < 0)).map V.int)) ∧ Same H H') ⟨upd_same, same_new nD⟩ (fun i H' _ h => sqT (h.2 _ _ h2)) ?_ ?_
    · rintro i x H1 hi ⟨hD, s1⟩
      obtain ⟨z, hz, rfl⟩ := map_int_at hi
      have tk : a.note.take (i + 1) = a.note.take i ++ [z] := by rw [List.take_add_one, hz]; rfl
      refine ⟨rfl, _, rfl, _, _, rfl, rfl, _, rfl, ?_⟩
      rw [tk, List.filter_append]
      refine ite2 (fun c => ?_) (fun c => ?_)
      · have c : z < 0 := of_decide_eq_true c
        have hDl : ((a.note.take i).filter fun x => decide (x < 0)).length ≤ a.note.length := Nat.le_trans (List.length_filter_le _ _) (List.length_take_le' _ _)
        refine ⟨_, rfl, _, hD, ?_, ?_, fun b u e => ?_⟩
        · rw [List.length_map]
          exact small1000 (Nat.le_trans hDl (by omega))
        · rw [upd_same, List.filter_cons_of_pos (by simpa using c), List.filter_nil, List.map_append]
          rfl
        · rw [upd_ne (ne_of_none e nD)]
          exact s1 _ _ e
      · have c : ¬ z < 0 := fun h => c (decide_eq_true h)
        rw [List.filter_cons_of_neg (by simpa using c), List.filter_nil, List.append_nil]
        exact ⟨hD, s1⟩
    rintro H1 ⟨hD, s1⟩
    rw [List.length_map, List.take_of_length_le (Nat.le_refl _)] at hD
    refine ⟨Nat.zero_le _, fun z nz => ?_⟩
    have sz := same_new (o := .lst ([] : List V)) nz
    have s2 := s1.trans sz
    generalize hns : (a.note.filter fun x => decide (x < 0)) = ns at hD
    have na := neg_all a.note
    rw [hns] at na
    refine ⟨.list (ns.map PyData.int), .list [], .lst (sqL (sz _ _ hD)) (dpInts ns), .lst (sqL upd_same) .nil, PySem.W.shaped_ints ns, by decide +kernel, _, rfl, ?_⟩
    rw [eqv_ints_nil]
    generalize upd H1 z (.lst []) = H2 at s2 ⊢
    cases e : ns.isEmpty with
    | false =>
      refine iteT (iteT (bad ?_ _ s2))
      rw [e] at na
      unfold Act.isGood Act.noteOk
      rw [← na, Bool.false_and, Bool.and_false, Bool.false_and, Bool.and_false]
    | true =>
      rw [e] at na
      obtain ⟨z2, hz⟩ := get_some (l := a.note) (i := a.who.toNat) (by omega)
      have gd := getD_of hz
      refine iteF ⟨_, rfl, _, rfl, n, _, _, _, rfl, rfl, sqT (s2 _ _ h2), at_of (j := a.who.toNat) (by omega) (ints_at hz), _, _, rfl, rfl, _, rfl, rfl, _, rfl, ?_⟩
      by_cases cz : z2 + 1 = a.num
      · refine iteNS (congrArg V.int cz) ?_
        have nt : a.noteOk many = true := by
          unfold Act.noteOk
          rw [← na, gd, decide_eq_true (show (a.note.length : Int) = (many : Int) by omega), decide_eq_true (show z2 = a.num - 1 by omega)]
          rfl
        have o2 := out H2 s2
        unfold Act.isGood at o2
        rw [mk, nt, Bool.true_and, Bool.true_and] at o2
        have h3' := s2 _ _ h3
        cases ew : a.what with
        | use x y =>
          rw [ew] at h3' o2
          refine ⟨_, rfl, q, _, _, _, rfl, rfl, sqT h3', atI_nat (j := 0) rfl, rfl, _, rfl, ?_⟩
          rw [show decide (V.str "use" = V.str "use") = true from decide_eq_true rfl]
          exact iteT o2
        | give x y m =>
          rw [ew] at h3' o2
          refine ⟨_, rfl, q, _, _, _, rfl, rfl, sqT h3', atI_nat (j := 0) rfl, rfl, _, rfl, ?_⟩
          rw [show decide (V.str "give" = V.str "use") = false by decide +kernel]
          have o2 : Q (.bl (decide (a.who < m) && decide (m < (many : Int)))) H2 := o2
          refine iteF ⟨_, rfl, q, _, _, _, rfl, rfl, sqT h3', atI_nat (j := 3) rfl, _, rfl, _, _, rfl, rfl, _, rfl, ite2 (fun c => ?_) (fun c => ?_)⟩
          · have c : decide (a.who < m) = true := c
            rw [c, Bool.true_and] at o2
            exact ⟨_, rfl, q, _, _, _, rfl, rfl, sqT h3', atI_nat (j := 3) rfl, _, rfl, _, _, rfl, rfl, o2⟩
          · have c : decide (a.who < m) = false := Bool.eq_false_iff.mpr c
            rw [c, Bool.false_and] at o2
            have e0 : V.bl (decide (a.who < m)) = V.bl false := by rw [c]
            exact e0 ▸ o2
        | take x y m =>
          rw [ew] at h3' o2
          refine ⟨_, rfl, q, _, _, _, rfl, rfl, sqT h3', atI_nat (j := 0) rfl, rfl, _, rfl, ?_⟩
          rw [show decide (V.str "take" = V.str "use") = false by decide +kernel]
          have o2 : Q (.bl (decide (a.who < m) && decide (m < (many : Int)))) H2 := o2
          refine iteF ⟨_, rfl, q, _, _, _, rfl, rfl, sqT h3', atI_nat (j := 3) rfl, _, rfl, _, _, rfl, rfl, _, rfl, ite2 (fun c => ?_) (fun c => ?_)⟩
          · have c : decide (a.who < m) = true := c
            rw [c, Bool.true_and] at o2
            exact ⟨_, rfl, q, _, _, _, rfl, rfl, sqT h3', atI_nat (j := 3) rfl, _, rfl, _, _, rfl, rfl, o2⟩
          · have c : decide (a.who < m) = false := Bool.eq_false_iff.mpr c
            rw [c, Bool.false_and] at o2
            have e0 : V.bl (decide (a.who < m)) = V.bl false := by rw [c]
            exact e0 ▸ o2
      · refine iteNT (fun h => cz (V.int.inj h)) (bad ?_ _ s2)
        unfold Act.isGood Act.noteOk
        rw [gd, decide_eq_false (show ¬ z2 = a.num - 1 by omega), Bool.and_false, Bool.and_false, Bool.false_and, Bool.and_false]
  · refine iteNT (fun h => cl (by have := V.int.inj h; omega)) (bad ?_ _ (.refl _))
    unfold Act.isGood Act.noteOk
    rw [decide_eq_false (show ¬ (a.note.length : Int) = (many : Int) by omega), Bool.false_and, Bool.false_and, Bool.and_false]
end
end FR

/-! Cuts through a world. -/
namespace FR
open PySem PySem.Spec PyProof.Rows L2 SrtO
structure Cut (many : Nat) (as : List Act) (D : Nat → Int) (top : List Int) : Prop where
  len : top.length = many
  pos : ∀ x ∈ top, 0 ≤ x
  le : ∀ (i : Nat) (x : Int), top[i]? = some x → x ≤ D i
  cl : ∀ b ∈ as, inCut top b = true → Le b.note top
theorem Cut.zero {many : Nat} {as : List Act} {D : Nat → Int} (W : Wide many as) (h0 : ∀ i, 0 ≤ D i) : Cut many as D (List.replicate many 0) := by
  refine ⟨List.length_replicate, fun x m => ?_, fun i x h => ?_, fun b mb h => ?_⟩
  · rw [(List.mem_replicate.mp m).2]
    exact Int.le_refl 0
  · rw [(List.mem_replicate.mp (List.mem_of_getElem? h)).2]
    exact h0 i
  · obtain ⟨k, e, hk, h1, _⟩ := W.act b mb
    unfold inCut at h
    have e2 : b.who.toNat = k := by omega
    have g : (List.replicate many (0 : Int))[k]? = some 0 := by rw [List.getElem?_replicate, if_pos hk]
    rw [e2, getD_of g] at h
    have := of_decide_eq_true h
    omega
theorem Cut.step {many : Nat} {as : List Act} {D : Nat → Int} {top : List Int} (W : Wide many as) (inj : ∀ a ∈ as, ∀ b ∈ as, a.mark = b.mark → a = b) (hD : ∀ a ∈ as, ∀ (i : Nat) (x : Int), a.note[i]? = some x → x ≤ D i) (hN : ∀ a ∈ as, a.num ≤ D a.who.toNat)
    (C : Cut many as D top) {a : Act} (ha : a ∈ as) {i : Nat} (ei : a.who = (i : Int)) {z : Int} (hz : (List.zipWith max top a.note)[i]? = some z) : Cut many as D ((List.zipWith max top a.note).set i (max z a.num)) := by
  have hl : (List.zipWith max top a.note).length = many := by rw [List.length_zipWith, C.len, W.len a ha, Nat.min_self]
  have hi : i < many := by rw [← hl]; exact (List.getElem?_eq_some_iff.mp hz).1
  have self : ((List.zipWith max top a.note).set i (max z a.num))[i]? = some (max z a.num) := List.getElem?_set_self (by rw [hl]; exact hi)
  have other : ∀ k, k ≠ i → ((List.zipWith max top a.note).set i (max z a.num))[k]? = (List.zipWith max top a.note)[k]? := fun k h => List.getElem?_set_ne (fun q => h q.symm)
  have up : ∀ (k : Nat) (x y : Int), (List.zipWith max top a.note)[k]? = some x → ((List.zipWith max top a.note).set i (max z a.num))[k]? = some y → x ≤ y := fun k x y h1 h2 => by
    by_cases e : k = i
    · subst e
      rw [self] at h2
      cases h2
      rw [hz] at h1
      cases h1
      omega
    · rw [other k e, h1] at h2
      cases h2
      exact Int.le_refl _
  have upT : Le top ((List.zipWith max top a.note).set i (max z a.num)) := fun k x y h1 h2 => by
    have hk : k < many := by rw [← C.len]; exact (List.getElem?_eq_some_iff.mp h1).1
    obtain ⟨v, hv⟩ := get_some (show k < (List.zipWith max top a.note).length by rw [hl]; exact hk)
    have q := up k v y hv h2
    obtain ⟨p, r, g1, g2, e⟩ := zip_get hv
    rw [h1] at g1
    cases g1
    omega
  have upN : Le a.note ((List.zipWith max top a.note).set i (max z a.num)) := fun k x y h1 h2 => by
    have hk : k < many := by rw [← W.len a ha]; exact (List.getElem?_eq_some_iff.mp h1).1
    obtain ⟨v, hv⟩ := get_some (show k < (List.zipWith max top a.note).length by rw [hl]; exact hk)
    have q := up k v y hv h2
    obtain ⟨p, r, g1, g2, e⟩ := zip_get hv
    rw [h1] at g2
    cases g2
    omega
  have trans : ∀ {r s : List Int}, r.length = many → s.length = many → Le r s → Le s ((List.zipWith max top a.note).set i (max z a.num)) → Le r ((List.zipWith max top a.note).set i (max z a.num)) := fun hr hs l1 l2 k x y h1 h2 => by
    have hk := (List.getElem?_eq_some_iff.mp h1).1
    obtain ⟨v, hv⟩ := get_some (show k < _ by rw [hs, ← hr]; exact hk)
    have q1 := l1 k x v h1 hv
    have q2 := l2 k v y hv h2
    omega
  refine ⟨by rw [List.length_set]; exact hl, fun x m => ?_, fun k x h => ?_, fun b mb h => ?_⟩
  · rcases List.mem_or_eq_of_mem_set m with m | rfl
    · exact zipWith_nonneg C.pos (W.pos a ha) x m
    · have := zipWith_nonneg C.pos (W.pos a ha) z (List.mem_of_getElem? hz)
      omega
  · by_cases e : k = i
    · subst e
      rw [self] at h
      cases h
      obtain ⟨p, r, g1, g2, e⟩ := zip_get hz
      have q1 := C.le k p g1
      have q2 := hD a ha k r g2
      have q3 := hN a ha
      have e3 : a.who.toNat = k := by omega
      rw [e3] at q3
      omega
    · rw [other k e] at h
      obtain ⟨p, r, g1, g2, e⟩ := zip_get h
      have q1 := C.le k p g1
      have q2 := hD a ha k r g2
      omega
  · obtain ⟨k, ek, hk, h1, h2⟩ := W.act b mb
    have e2 : b.who.toNat = k := by omega
    unfold inCut at h
    rw [e2] at h
    obtain ⟨v, hv⟩ := get_some (show k < (List.zipWith max top a.note).length by rw [hl]; exact hk)
    obtain ⟨p, r, g1, g2, e⟩ := zip_get hv
    have viaT : b.num ≤ p → Le b.note ((List.zipWith max top a.note).set i (max z a.num)) := fun le =>
      trans (W.len b mb) C.len (C.cl b mb (by unfold inCut; rw [e2, getD_of g1]; exact decide_eq_true le)) upT
    have viaN : b.num ≤ r → Le b.note ((List.zipWith max top a.note).set i (max z a.num)) := fun le =>
      trans (W.len b mb) (W.len a ha) (W.cl a ha b mb (by rw [e2, getD_of g2]; exact le)) upN
    by_cases ki : k = i
    · subst ki
      rw [getD_of self] at h
      have h := of_decide_eq_true h
      rw [hz] at hv
      cases hv
      by_cases c1 : b.num ≤ p
      · exact viaT c1
      · by_cases c2 : b.num ≤ r
        · exact viaN c2
        · have c3 : b.num ≤ a.num := by omega
          obtain ⟨k', ek', _, _, hn⟩ := W.act a ha
          have : k' = k := by omega
          subst this
          rw [g2] at hn
          cases hn
          have en : b.num = a.num := by omega
          have eb := inj b mb a ha (Prod.ext (by show b.who = a.who; omega) en)
          rw [eb]
          exact upN
    · rw [show ((List.zipWith max top a.note).set i (max z a.num)).getD k 0 = v from getD_of ((other k ki).trans hv)] at h
      have h := of_decide_eq_true h
      rcases Int.le_total r p with le | le
      · exact viaT (by omega)
      · exact viaN (by omega)
section
variable {many : Nat} {as : List Act} {D : Nat → Int} {top : List Int} {b : Act}
theorem Cut.less (W : Wide many as) (C : Cut many as D top) (hb : b ∈ as) (h : inCut top b = true) : b.note.sum < top.sum := by
  have le := C.cl b hb h
  obtain ⟨k, ek, hk, h1, h2⟩ := W.act b hb
  have e2 : b.who.toNat = k := by omega
  unfold inCut at h
  rw [e2] at h
  obtain ⟨v, hv⟩ := get_some (show k < top.length by rw [C.len]; exact hk)
  rw [getD_of hv] at h
  have h := of_decide_eq_true h
  exact lt_sum k _ v (by rw [W.len b hb, C.len]) le h2 hv (by omega)
/-- what one in the cut has seen is in it -/
theorem Cut.seen (W : Wide many as) (C : Cut many as D top) {c : Act} (hb : b ∈ as) (hc : c ∈ as) (h : inCut top b = true) (s : b.sees c = true) : inCut top c = true := by
  rw [W.sees_iff hb hc] at s
  have le := C.cl b hb h
  obtain ⟨k, ek, hk, h1, h2⟩ := W.act c hc
  have e2 : c.who.toNat = k := by omega
  unfold inCut at s ⊢
  rw [e2] at s ⊢
  obtain ⟨v, hv⟩ := get_some (show k < top.length by rw [C.len]; exact hk)
  obtain ⟨u, hu⟩ := get_some (show k < b.note.length by rw [W.len b hb]; exact hk)
  rw [getD_of hu] at s
  rw [getD_of hv]
  have s := of_decide_eq_true s
  have := le k u v hu hv
  exact decide_eq_true (by omega)
/-- a deed that has seen all of the cut -/
def moreOf (top : List Int) (i : Nat) : Act := ⟨(i : Int), top.getD i 0 + 1, top, .use "a" "b"⟩
theorem Cut.more_sees (W : Wide many as) (C : Cut many as D top) (i : Nat) (hb : b ∈ as) : (moreOf top i).sees b = inCut top b := by
  obtain ⟨k, ek, hk, h1, _⟩ := W.act b hb
  unfold Act.sees Act.seen inCut moreOf
  simp only
  rw [C.len, decide_eq_true (show (0 : Int) ≤ b.who by omega), decide_eq_true (show b.who < (many : Int) by omega), decide_eq_true h1]
  rfl
end
/-- the greatest one stands last -/
theorem placed_last {A : Addr → Act} {qs : List Addr} {m : Addr} (hp : Placed A qs) (mm : m ∈ qs) (lt : ∀ q ∈ qs, q ≠ m → HT.lexLt (A q).place (A m).place = true) : qs[qs.length - 1]? = some m := by
  have hpos : 0 < qs.length := List.length_pos_of_mem mm
  have hl : qs.length - 1 < qs.length := by omega
  rw [List.getElem?_eq_getElem hl]
  congr 1
  by_cases e : qs[qs.length - 1] = m
  · exact e
  · exfalso
    obtain ⟨j, hj⟩ := List.getElem?_of_mem mm
    obtain ⟨lj, ej⟩ := List.getElem?_eq_some_iff.mp hj
    have jl : j < qs.length - 1 := by
      rcases Nat.lt_or_ge j (qs.length - 1) with h | h
      · exact h
      · have : j = qs.length - 1 := by omega
        subst this
        exact absurd ej e
    have q := (List.pairwise_iff_getElem.mp hp) j (qs.length - 1) lj hl jl
    rw [ej] at q
    have z : HT.lexLt (A qs[qs.length - 1]).place (A m).place = false := q
    rw [lt _ (List.getElem_mem hl) e] at z
    cases z
end FR

/-! How a deed is written. -/
namespace FR
open PySem PySem.Spec PyProof.Rows L2
def intS (i : Int) : Str := toString i
theorem intOk_of {i : Int} (h0 : 0 ≤ i) (h1 : i < 10 ^ 9) : IntOk i := by
  unfold IntOk
  by_cases h : i.natAbs = 0
  · rw [h]; decide
  · rw [Nat.log2_lt h]
    have : i.natAbs < 2 ^ 30 := by omega
    exact Nat.lt_trans this (Nat.pow_lt_pow_right (by decide) (by decide))
theorem intS_len {i : Int} (h : IntOk i) : (intS i).length ≤ 1921 := int_len h
def What.Num : What → Prop
  | .give _ _ m => 0 ≤ m ∧ m < 10 ^ 9
  | .take _ _ m => 0 ≤ m ∧ m < 10 ^ 9
  | .use _ _ => True
structure Act.Num (a : Act) : Prop where
  who : 0 ≤ a.who ∧ a.who < 10 ^ 9
  num : 0 ≤ a.num ∧ a.num < 10 ^ 9
  note : ∀ x ∈ a.note, 0 ≤ x ∧ x < 10 ^ 9
  len : a.note.length ≤ 6
  pos : a.note ≠ []
  what : a.what.Num
  fit : a.what.Fit
def What.strs : What → List Str
  | .give p k m => ["give", p, k, intS m]
  | .take p k m => ["take", p, k, intS m]
  | .use p v => ["use", p, v]
def noteS (ns : List Int) : Str := Txt.join "." (ns.map intS)
def wordsS (w : What) : Str := Txt.join " " w.strs
def Act.shown (a : Act) : Str := Str.empty ++ intS a.who ++ "." ++ intS a.num ++ " seen " ++ noteS a.note ++ " " ++ wordsS a.what
theorem len_app (x y : Str) : (x ++ y).length = x.length + y.length := by rw [TL.len_tl, TL.tl_append, List.length_append, ← TL.len_tl, ← TL.len_tl]
theorem joinL_len (S : List Nat) : ∀ l : List (List Nat), (TL.joinL S l).length ≤ (l.map List.length).sum + l.length * S.length
  | [] => Nat.zero_le _
  | [p] => by simp [TL.joinL]
  | p :: q :: r => by
    have h := joinL_len S (q :: r)
    have e : (TL.joinL S (p :: q :: r)).length = p.length + (S.length + (TL.joinL S (q :: r)).length) := by
      show (p ++ (S ++ TL.joinL S (q :: r))).length = _
      rw [List.length_append, List.length_append]
    rw [e, List.map_cons, List.sum_cons, List.length_cons, Nat.succ_mul]
    omega
theorem join_len (y : Str) (l : List Str) : (Txt.join y l).length ≤ (l.map (·.length)).sum + l.length * y.length := by
  rw [TL.len_tl, TL.join_eq, TL.tl_join]
  have h := joinL_len (TL.tl y) (l.map TL.tl)
  rw [List.map_map, List.length_map] at h
  have e : (List.map (List.length ∘ TL.tl) l) = l.map (·.length) := by
    refine List.map_congr_left fun x _ => ?_
    show (TL.tl x).length = x.length
    rw [TL.len_tl]
  rw [e] at h
  rw [TL.len_tl y]
  exact h
theorem sum_le {l : List Nat} {b : Nat} (h : ∀ x ∈ l, x ≤ b) : l.sum ≤ l.length * b := by
  induction l with
  | nil => exact Nat.zero_le _
  | cons x r ih =>
    have h1 := h x List.mem_cons_self
    have h2 := ih fun y m => h y (List.mem_cons_of_mem _ m)
    rw [List.sum_cons, List.length_cons, Nat.succ_mul]
    omega
theorem note_sum {ns : List Int} (h : ∀ x ∈ ns, 0 ≤ x ∧ x < 10 ^ 9) (hl : ns.length ≤ 6) : ((ns.map intS).map (·.length)).sum + (ns.map intS).length * Str.length "." ≤ 20000 := by
  have h1 := sum_le (l := (ns.map intS).map (·.length)) (b := 1921) fun x m => by
    obtain ⟨s, ms, rfl⟩ := List.mem_map.mp m
    obtain ⟨i, mi, rfl⟩ := List.mem_map.mp ms
    exact intS_len (intOk_of (h i mi).1 (h i mi).2)
  have e : Str.length "." = 1 := by decide +kernel
  rw [List.length_map, List.length_map] at h1
  rw [e, List.length_map]
  omega
theorem word_len {s : Str} (h : WordOk s) : s.length ≤ 8 := by
  rw [TL.len_tl]
  exact h.2.1
theorem kind_len {s : Str} (h : KindOk s) : s.length ≤ 8 := by rcases h with rfl | rfl <;> decide +kernel
theorem strs_len {w : What} (hf : w.Fit) (hn : w.Num) : (∀ s ∈ w.strs, s.length ≤ 1921) ∧ w.strs.length ≤ 4 := by
  have e1 : Str.length "give" ≤ 1921 := by decide +kernel
  have e2 : Str.length "take" ≤ 1921 := by decide +kernel
  have e3 : Str.length "use" ≤ 1921 := by decide +kernel
  cases w with
  | give p k m =>
    have h1 := word_len hf.1
    have h2 := kind_len hf.2
    have h3 := intS_len (intOk_of hn.1 hn.2)
    refine ⟨fun s ms => ?_, Nat.le_refl _⟩
    simp only [What.strs, List.mem_cons, List.not_mem_nil, or_false] at ms
    rcases ms with rfl | rfl | rfl | rfl <;> omega
  | take p k m =>
    have h1 := word_len hf.1
    have h2 := kind_len hf.2
    have h3 := intS_len (intOk_of hn.1 hn.2)
    refine ⟨fun s ms => ?_, Nat.le_refl _⟩
    simp only [What.strs, List.mem_cons, List.not_mem_nil, or_false] at ms
    rcases ms with rfl | rfl | rfl | rfl <;> omega
  | use p v =>
    have h1 := word_len hf.1
    have h2 := word_len hf.2
    refine ⟨fun s ms => ?_, (by show 3 ≤ 4; decide)⟩
    simp only [What.strs, List.mem_cons, List.not_mem_nil, or_false] at ms
    rcases ms with rfl | rfl | rfl <;> omega
theorem blank_len : Str.length " " = 1 := by decide +kernel
theorem strs_sum {w : What} (hf : w.Fit) (hn : w.Num) : (w.strs.map (·.length)).sum + w.strs.length * Str.length " " ≤ 8000 := by
  obtain ⟨h1, h2⟩ := strs_len hf hn
  have h3 := sum_le (l := w.strs.map (·.length)) (b := 1921) fun x m => by
    obtain ⟨s, ms, rfl⟩ := List.mem_map.mp m
    exact h1 s ms
  rw [List.length_map] at h3
  rw [blank_len]
  omega
theorem noteS_len {ns : List Int} (h : ∀ x ∈ ns, 0 ≤ x ∧ x < 10 ^ 9) (hl : ns.length ≤ 6) : (noteS ns).length ≤ 20000 := Nat.le_trans (join_len _ _) (note_sum h hl)
theorem wordsS_len {w : What} (hf : w.Fit) (hn : w.Num) : (wordsS w).length ≤ 8000 := Nat.le_trans (join_len _ _) (strs_sum hf hn)
/-- the law's writing is the same -/
theorem shown_law (a : Act) : Txt.join " " ([intS a.who ++ "." ++ intS a.num, "seen", noteS a.note] ++ a.what.strs) = a.shown := by
  refine TL.ext_tl ?_
  have e1 : TL.tl " seen " = TL.tl " " ++ (TL.tl "seen" ++ TL.tl " ") := by decide +kernel
  have e0 : TL.tl Str.empty = [] := rfl
  have h : ∀ (A B C : List Nat) (l : List (List Nat)), l ≠ [] → TL.joinL (TL.tl " ") ([A, B, C] ++ l) = A ++ (TL.tl " " ++ (B ++ (TL.tl " " ++ (C ++ (TL.tl " " ++ TL.joinL (TL.tl " ") l))))) := by
    intro A B C l hl
    cases l with
    | nil => exact absurd rfl hl
    | cons x r => rfl
  have ne : a.what.strs.map TL.tl ≠ [] := by cases a.what <;> simp [What.strs]
  unfold Act.shown wordsS
  rw [TL.join_eq, TL.tl_join, List.map_append]
  rw [show List.map TL.tl [intS a.who ++ "." ++ intS a.num, "seen", noteS a.note] = [TL.tl (intS a.who ++ "." ++ intS a.num), TL.tl "seen", TL.tl (noteS a.note)] from rfl, h _ _ _ _ ne]
  rw [TL.join_eq]
  simp only [TL.tl_append, TL.tl_join, e0, e1, List.nil_append, List.append_assoc]
theorem shown_len {a : Act} (h : a.Num) : a.shown.length ≤ 40000 := by
  have h1 := intS_len (intOk_of h.who.1 h.who.2)
  have h2 := intS_len (intOk_of h.num.1 h.num.2)
  have h3 := noteS_len h.note h.len
  have h4 := wordsS_len h.fit h.what
  have e0 : Str.empty.length = 0 := rfl
  have e1 : Str.length "." = 1 := by decide +kernel
  have e2 : Str.length " seen " = 6 := by decide +kernel
  unfold Act.shown
  simp only [len_app, e0, e1, e2, blank_len]
  omega
section
variable {X : Cx}
/-- str of an int or a text -/
theorem call_strOf : CallR X (.type "str") (fun xs H Q => (∃ i, xs = [.int i] ∧ IntOk i ∧ Q (.str (intS i)) H) ∨ ∃ a, xs = [.str a] ∧ Q (.str a) H) := by
  intro pins s σ H xs us Q I r h
  rcases h with h | h
  · exact call_str_int pins s σ H xs us Q I r h
  · exact SkE.call_str_str pins s σ H xs us Q I r h
end
/-- the writing of a deed -/
def spShown : Sp := fun vs H Q _ => ∃ (p : Addr) (a : Act), vs = [.ref p] ∧ ActAt H p a ∧ a.Num ∧ ∀ H' : Hp, Same H H' → Q (.str a.shown) H'
def What.parts : What → List V := What.vs
/-- each part's text, from its value -/
def strOf : V → Str
  | .int i => intS i
  | .str s => s
  | _ => Str.empty
theorem parts_str (w : What) : w.vs.map (fun v => V.str (strOf v)) = w.strs.map V.str := by cases w <;> rfl
theorem part_ok {w : What} (hn : w.Num) : ∀ v ∈ w.vs, (∃ i, v = .int i ∧ IntOk i) ∨ ∃ s, v = .str s := by
  cases w with
  | give p k m =>
    intro v mv
    simp only [What.vs, List.mem_cons, List.not_mem_nil, or_false] at mv
    rcases mv with rfl | rfl | rfl | rfl
    · exact .inr ⟨_, rfl⟩
    · exact .inr ⟨_, rfl⟩
    · exact .inr ⟨_, rfl⟩
    · exact .inl ⟨_, rfl, intOk_of hn.1 hn.2⟩
  | take p k m =>
    intro v mv
    simp only [What.vs, List.mem_cons, List.not_mem_nil, or_false] at mv
    rcases mv with rfl | rfl | rfl | rfl
    · exact .inr ⟨_, rfl⟩
    · exact .inr ⟨_, rfl⟩
    · exact .inr ⟨_, rfl⟩
    · exact .inl ⟨_, rfl, intOk_of hn.1 hn.2⟩
  | use p v' =>
    intro v mv
    simp only [What.vs, List.mem_cons, List.not_mem_nil, or_false] at mv
    rcases mv with rfl | rfl | rfl
    · exact .inr ⟨_, rfl⟩
    · exact .inr ⟨_, rfl⟩
    · exact .inr ⟨_, rfl⟩
end FR

namespace FR
open PySem PySem.Spec PyProof.Rows L2
structure Blt2 (mg : Str → Option Value) extends Blt mg where
  all : mg "all" = none
  any : mg "any" = none
  min : mg "min" = none
  dict : mg "dict" = none
  abs : mg "abs" = none
  enumerate : mg "enumerate" = none
/-- the numbers of a world are small -/
theorem zipWith_low {b : Int} : ∀ {r s : List Int}, (∀ x ∈ r, x ≤ b) → (∀ x ∈ s, x ≤ b) → ∀ x ∈ List.zipWith max r s, x ≤ b
  | [], _, _, _, x, h => by simp at h
  | _ :: _, [], _, _, x, h => by simp at h
  | a :: r, c :: s, hr, hs, x, h => by
    rw [List.zipWith_cons_cons, List.mem_cons] at h
    rcases h with rfl | h
    · have := hr a (List.mem_cons_self ..)
      have := hs c (List.mem_cons_self ..)
      omega
    · exact zipWith_low (fun y m => hr y (List.mem_cons_of_mem _ m)) (fun y m => hs y (List.mem_cons_of_mem _ m)) x h
theorem Wd.low {many : Nat} {acts : List Act} {known : List (List Int)} (h : Wd many acts known) : (∀ r ∈ known, ∀ x ∈ r, x ≤ acts.length) ∧
    ∀ a ∈ acts, 0 ≤ a.who ∧ a.who < many ∧ 0 ≤ a.num ∧ a.num ≤ acts.length ∧ (∀ x ∈ a.note, x ≤ acts.length) ∧ ∃ i : Int, 0 ≤ i ∧ a.what.Ok i many := by
  induction h with
  | nil =>
    refine ⟨fun r m x mx => ?_, fun a m => by cases m⟩
    rw [(List.mem_replicate.mp m).2] at mx
    rw [(List.mem_replicate.mp mx).2]
    exact Int.le_refl 0
  | @step acts known i row row' c wt w hi hr hc ok ih =>
    obtain ⟨ih1, ih2⟩ := ih
    have nn := w.nonneg
    have hl := w.lens
    have h1 : ∀ x ∈ row', x ≤ acts.length := by
      rcases hr with rfl | ⟨j, ro, hj, rfl⟩
      · exact ih1 _ (List.mem_of_getElem? hi)
      · exact zipWith_low (ih1 _ (List.mem_of_getElem? hi)) (ih1 _ (List.mem_of_getElem? hj))
    have h0 : ∀ x ∈ row', 0 ≤ x := by
      rcases hr with rfl | ⟨j, ro, hj, rfl⟩
      · exact nn _ (List.mem_of_getElem? hi)
      · exact zipWith_nonneg (nn _ (List.mem_of_getElem? hi)) (nn _ (List.mem_of_getElem? hj))
    have c1 := h1 c (List.mem_of_getElem? hc)
    have c0 := h0 c (List.mem_of_getElem? hc)
    have il : i < many := by
      rw [← hl.1]
      exact (List.getElem?_eq_some_iff.mp hi).1
    rw [List.length_append, List.length_singleton]
    refine ⟨fun r m x mx => ?_, fun a m => ?_⟩
    · rcases List.mem_or_eq_of_mem_set m with m | rfl
      · have := ih1 r m x mx
        omega
      · rcases List.mem_or_eq_of_mem_set mx with mx | rfl
        · have := h1 x mx
          omega
        · omega
    · rcases List.mem_append.mp m with m | m
      · obtain ⟨q1, q2, q3, q4, q5, q6⟩ := ih2 a m
        exact ⟨q1, q2, q3, by omega, fun x mx => by have := q5 x mx; omega, q6⟩
      · rw [List.mem_singleton.mp m]
        exact ⟨Int.natCast_nonneg i, by show (i : Int) < many; omega, by show 0 ≤ c + 1; omega, by show c + 1 ≤ _; omega, fun x mx => by have := h1 x mx; omega, i, Int.natCast_nonneg i, ok⟩
theorem What.Ok.num {i many : Int} (h0 : 0 ≤ i) (h6 : many ≤ 6) : ∀ {w : What}, w.Ok i many → w.Num
  | .give p k m, h => ⟨by have := h.2.2.1; omega, by have := h.2.2.2; omega⟩
  | .take p k m, h => ⟨by have := h.2.2.1; omega, by have := h.2.2.2; omega⟩
  | .use _ _, h => trivial
theorem Wd.nums {many : Nat} {acts : List Act} {known : List (List Int)} (h : Wd many acts known) (h1 : 1 ≤ many) (h6 : many ≤ 6) (hl : (acts.length : Int) ≤ 1000) : ∀ a ∈ acts, a.Num := fun a m => by
  obtain ⟨q1, q2, q3, q4, q5, i, i0, q6⟩ := h.low.2 a m
  obtain ⟨p1, p2, p3⟩ := h.plain a m
  exact ⟨⟨q1, by omega⟩, ⟨q3, by omega⟩, fun x mx => ⟨p2 x mx, by have := q5 x mx; omega⟩, by omega, fun e => by rw [e, List.length_nil] at p1; omega, q6.num i0 (by omega), p3⟩
theorem tup_eqv {ds : List PyData} (h : SeqAt.shaped (.tuple ds) = true) : PyData.eqv (.tuple ds) (.tuple ds) = true := SeqAt.eqv_refl _ (SeqAt.canLay_of_shaped h)
/-- what a list of two holds -/
def Num (i : Int) : Prop := 0 ≤ i ∧ i < 10 ^ 9
theorem two_at {a b : Int} {k : Int} (h0 : 0 ≤ k) (h1 : k < 2) (ha : Num a) (hb : Num b) : ∃ z : Int, atI ([.int a, .int b] : List V) k = some (.int z) ∧ Num z := by
  have e : k = 0 ∨ k = 1 := by omega
  rcases e with rfl | rfl
  · exact ⟨a, rfl, ha⟩
  · exact ⟨b, rfl, hb⟩
theorem three_at {a b c : Int} {k : Int} (h0 : 0 ≤ k) (h1 : k < 3) (ha : Num a) (hb : Num b) (hc : Num c) : ∃ z : Int, atI ([.int a, .int b, .int c] : List V) k = some (.int z) ∧ Num z := by
  have e : k = 0 ∨ k = 1 ∨ k = 2 := by omega
  rcases e with rfl | rfl | rfl
  · exact ⟨a, rfl, ha⟩
  · exact ⟨b, rfl, hb⟩
  · exact ⟨c, rfl, hc⟩
theorem gt_at {k : Int} (h0 : 0 ≤ k) (h1 : k < 2) : ∃ s : Str, atI ([.str "give", .str "take"] : List V) k = some (.str s) ∧ (s = "give" ∨ s = "take") := by
  have e : k = 0 ∨ k = 1 := by omega
  rcases e with rfl | rfl
  · exact ⟨_, rfl, .inl rfl⟩
  · exact ⟨_, rfl, .inr rfl⟩
theorem seq_kp {K : PySem.W.Frag} {S : List Addr} {H H' : Hp} {a : Addr} {xs : List V} (h : SqL K H a xs) (k : Kp S H H') (f : ∀ b ∈ S, H b = none) : SqL K H' a xs := by
  have ne : ∀ o, H a = some o → a ∉ S := fun o e m => by
    rw [f a m] at e
    cases e
  rcases h with (h | ⟨o, h⟩) | h
  · exact .inl (.inl (k.kp _ _ h (ne _ h)))
  · exact .inl (.inr ⟨o, k.kp _ _ h (ne _ h)⟩)
  · exact .inr h
def spAny : Sp := fun vs H Q _ => ∃ (t g : Addr) (N : Nat), vs = [.ref t] ∧ TrayAt H t g N ∧ N < 2 ^ 59 ∧
  ∀ (H' : Hp) (p : Addr) (a : Act), H p = none → ActAt H' p a → a.Num → TrayAt H' t g (N + 200) → Kp [t, g] H H' → Q (.ref p) H'
end FR

namespace FR
open PySem PySem.Spec PyProof.Rows L2 SrtO
abbrev sLaw : Stmt := top 30
section
variable {P : Program} {w : World} {K : PySem.W.Frag} {mg : Str → Option Value} {base : Heap}
/-- a deed that may be bent -/
def Straight (many : Nat) (H : Hp) (p : Addr) : Prop := ∃ a, ActAt H p a ∧ a.note.length = many ∧ 0 ≤ a.who ∧ a.who < many ∧ 1 ≤ a.num ∧ a.num ≤ 1000 ∧ a.what.Fit
theorem Straight.keep {many : Nat} {S : List Addr} {H H' : Hp} {p : Addr} (h : Straight many H p) (k : Kp S H H') : Straight many H' p := by
  obtain ⟨a, h1, h2⟩ := h
  exact ⟨a, h1.keep k, h2⟩
/-- a deed that may be looked at -/
def Seen (H : Hp) (p : Addr) : Prop := ∃ a, ActAt H p a ∧ IntOk a.who ∧ IntOk a.num
theorem Seen.keep {S : List Addr} {H H' : Hp} {p : Addr} (h : Seen H p) (k : Kp S H H') : Seen H' p := by
  obtain ⟨a, h1, h2⟩ := h
  exact ⟨a, h1.keep k, h2⟩
theorem zeros_rd {K : PySem.W.Frag} {σ : L2.St} {H : Hp} {Q : VK} {i many : Nat} (hi : σ[i]? = some (some (V.int (many : Int)))) (h1 : 1 ≤ many) (h6 : many ≤ 6) (q : ∀ n H1, Same H H1 → H1 n = some (.tup ((List.replicate many (0 : Int)).map V.int)) → Q (.ref n) H1) :
    tOp (rRepA K) (tTup (tCons (tC (.int 0)) tNil)) (tVar i) σ H Q := by
  refine ⟨(by rw [sizeLine_eq]; show 1 ≤ _; omega), fun z nz => ⟨_, hi, z, many, [.int 0], rfl, rfl, sqT upd_same, by simp, by omega, by omega, by simp, fun e => ?_, fun e n nn => ?_⟩⟩
  · have e : many = 1 := by omega
    subst e
    exact q z _ (same_new nz) upd_same
  · refine q n _ ((same_new nz).trans (same_new nn)) ?_
    rw [upd_same]
    have e2 : ((many : Int)).toNat = many := by omega
    rw [e2]
    have e3 : (List.replicate many ([.int 0] : List V)).flatten = (List.replicate many (0 : Int)).map V.int := by
      rw [List.map_replicate]
      clear e e2 hi h1 h6 nn nz q
      induction many with
      | zero => rfl
      | succ n ih => rw [List.replicate_succ, List.flatten_cons, ih, List.replicate_succ]; rfl
    rw [e3]
abbrev nLaw : List Str := ["script", "tray", "many", "acts", "turn", "act", "due", "k"]
theorem scLaw : FnScope nLaw ["script"] (defScope sLaw) := ⟨rfl, rfl, rfl, by decide +kernel, rfl, by decide +kernel, by decide +kernel⟩
theorem ok_law {f fT fM fW fE fB fG fK fL : Addr} {fd fdT fdM fdW fdE fdB fdG fdK fdL : FuncData} {k : Nat} (F : Fun K "law" "law" sLaw f fd) (T : Cal P w K mg base k "_law_tray" ["script"] (spTray K) fT fdT) (M : Cal P w K mg base k "_law_most" ["tray"] spMost fM fdM)
    (W : Cal P w K mg base k "_law_world" ["tray", "most"] spWorld fW fdW) (R : Cal P w K mg base k "_law_errors_right" ["number"] spErrs fE fdE) (N : Cal P w K mg base k "_law_bent" ["tray", "many", "act"] spBent fB fdB) (G : Cal P w K mg base k "_law_is_good" ["many", "act"] spIsGood fG fdG)
    (Lk : Cal P w K mg base k "_law_looked" ["turn", "many", "act"] spLooked fK fdK) (L : Cal P w K mg base k "_law_alike" ["found", "due"] (spAlike 3) fL fdL) (B : Blt mg) : FnOk P w K mg base CX0 (k + 1) f fd ["script"] (spLaw K) := by
  refine F.ok scLaw (fun vs H Q E h => ?_) (fun cdv A' outer s H vs Q E hr h => ?_)
  · obtain ⟨a, ns, rfl, _⟩ := h
    rfl
  obtain ⟨a, ns, rfl, hS, h63, q⟩ := h
  refine ⟨_, (pss_cons (ps_set (i := 1) scLaw.nd rfl (.inr rfl) (pe_call T.ok hr (by rfl) T.m T.kp T.b .nil pass0 (pa_cons (pv 0) pa_nil)))
    (pss_cons (ps_asg (pe_call W.ok hr (by rfl) W.m W.kp W.b .nil pass0 (pa_cons (pv 1) (pa_cons (pe_call M.ok hr (by rfl) M.m M.kp M.b .nil pass0 (pa_cons (pv 1) pa_nil)) pa_nil))) (pg_unl rfl (pgs_cons (pg_name (i := 2) scLaw.nd rfl (.inr rfl)) (pgs_cons (pg_name (i := 3) scLaw.nd rfl (.inr rfl)) pgs_nil))))
    (pss_cons (ps_if (pt_not (pt_val (pe_call R.ok hr (by rfl) R.m R.kp R.b .nil pass0 (pa_cons (pe_callB call_len_seq (by rfl) B.len PySem.boot_len (pa_cons (pv 0) pa_nil)) pa_nil))))
      (pss_one (ps_ret pe_bl))
      pss_nil)
    (pss_cons (ps_set (i := 3) scLaw.nd rfl (.inr rfl) (pe_op op_cat (pe_slice (sl_list : SlR _ (rSlL K)) (pv 3) po_none (po_some pe_int)) (pe_lst (pa_cons (pe_tup (pa_cons pe_int (pa_cons pe_int (pa_cons (pe_op (op_repA : OpR _ _ (rRepA K)) (pe_tup (pa_cons pe_int pa_nil)) (pv 2)) (pa_cons (pe_tup (pa_cons pe_str (pa_cons pe_str (pa_cons pe_str pa_nil)))) pa_nil))))) pa_nil))))
    (pss_cons (ps_for PassesOwn.never rfl (pi_range1 (by rfl) B.range (pa_cons (pe_callB call_len_seq (by rfl) B.len PySem.boot_len (pa_cons (pv 3) pa_nil)) pa_nil)) (pg_name (i := 4) scLaw.nd rfl (.inr rfl))
      (pss_one (ps_for PassesOwn.never rfl (pi_list (pe_op op_cat (pe_lst (pa_cons (pe_ix (ix_list : IxR _ (rIxL K)) (pv 3) (pv 4) (fun _ _ => rfl)) pa_nil)) (pe_lc (own := [("k", 7)]) (g := (gName 7)) (tt := tYes) rfl scLaw.nd (pi_range1 (by rfl) B.range (pa_cons pe_int pa_nil))
        (blkOk_by (N := nLaw) (sc := defScope sLaw) (by decide +kernel)) (fun _ _ _ _ _ => (pg_name (i := 7) scLaw.nd rfl (.inl rfl))) (fun _ _ _ _ _ => pts_nil)
        (fun _ _ _ _ _ => (pe_call N.ok hr (by rfl) N.m N.kp N.b .nil pass0 (pa_cons (pv 1) (pa_cons (pv 2) (pa_cons (pe_ix (ix_list : IxR _ (rIxL K)) (pv 3) (pv 4) (fun _ _ => rfl)) pa_nil)))))))) (pg_name (i := 5) scLaw.nd rfl (.inl rfl))
          (pss_cons (ps_set (i := 6) scLaw.nd rfl (.inl rfl) (pe_ifExp (pt_val (pe_call G.ok hr (by rfl) G.m G.kp G.b .nil pass0 (pa_cons (pv 2) (pa_cons (pv 5) pa_nil)))) (pe_lst (pa_cons pe_non pa_nil)) (pe_lst (pa_cons pe_str (pa_cons (pe_tup (pa_cons (pe_ix (ix_tup : IxR _ (rIxT K)) (pv 5) pe_int (fun _ _ => rfl)) (pa_cons (pe_ix (ix_tup : IxR _ (rIxT K)) (pv 5) pe_int (fun _ _ => rfl)) pa_nil))) (pa_cons pe_bl pa_nil))))))
            (pss_one (ps_if (pt_not (pt_val (pe_call L.ok hr (by rfl) L.m L.kp L.b .nil pass0 (pa_cons (pe_call Lk.ok hr (by rfl) Lk.m Lk.kp Lk.b .nil pass0 (pa_cons (pv 4) (pa_cons (pv 2) (pa_cons (pv 5) pa_nil)))) (pa_cons (pv 6) pa_nil)))))
              (pss_one (ps_ret pe_bl))
              pss_nil))))))
    (pss_one (ps_ret pe_bl))))))), ?_⟩
  refine ⟨_, rfl, a, ns, rfl, hS, h63, fun t g H1 s1 nt ng T1 => ?_⟩
  refine ⟨_, rfl, _, rfl, t, g, 0, rfl, T1, by decide, fun H2 most m0 m110 T2 k2 => ?_⟩
  refine ⟨t, g, 1, most, rfl, T2, m0, by omega, by decide, fun H3 r ac ps many acts known b1 b6 hlen wd nr nac nrT nacT hr3 hac ha T3 k3 => ?_⟩
  refine ⟨r, _, rfl, sqL hr3, rfl, _, _, rfl, _, _, rfl, rfl, ?_⟩
  have hpl := paired_len ha
  have hS3 : SqL K H3 a (ns.map V.int) := seq_kp hS (((Kp.of s1).trans k2).trans k3) fun b m => by
    simp only [List.mem_cons, List.not_mem_nil, or_false] at m
    rcases m with rfl | rfl
    · exact nt
    · exact ng
  refine ⟨_, rfl, a, _, rfl, .inl hS3, _, rfl, (by rw [List.length_map]; omega), fun H4 s4 => ⟨true, rfl, iteF ?_⟩⟩
  have T4 := T3.same s4
  have hac4 := s4 _ _ hac
  have straight4 : ∀ p ∈ ps, Straight many H4 p := fun p mp => by
    obtain ⟨j, hj⟩ := List.getElem?_of_mem mp
    obtain ⟨x, hx, h⟩ := paired_at ha hj
    have mx := List.mem_of_getElem? hx
    obtain ⟨p1, p2, p3⟩ := wd.plain x mx
    obtain ⟨q1, q2, q3, q4, _⟩ := wd.low.2 x mx
    obtain ⟨j2, _, _, w1, _⟩ := wd.world.act x mx
    exact ⟨x, h.keep (S := []) (.of s4), p1, q1, q2, w1, by omega, p3⟩
  refine ⟨_, rfl, 40, rfl, ac, _, rfl, sqL hac4, fun l nl => ?_⟩
  rw [show (40 : Int) = ((40 : Nat) : Int) from rfl, cut_take, ← List.map_take]
  have s5 := same_new (o := .lst ((ps.take 40).map V.ref)) nl
  have hl5 : upd H4 l (.lst ((ps.take 40).map V.ref)) l = _ := upd_same
  show tLst _ _ (upd H4 l (.lst ((ps.take 40).map V.ref))) _
  generalize upd H4 l (.lst ((ps.take 40).map V.ref)) = H5 at s5 hl5 ⊢
  refine zeros_rd (many := many) rfl b1 b6 fun n H6 s6 hn6 => ?_
  refine ⟨(by rw [sizeLine_eq]; show 3 ≤ _; omega), fun wq nw => ?_⟩
  have s7 := same_new (o := .tup ([.str "use", .str "a", .str "b"] : List V)) nw
  have hw7 : upd H6 wq (.tup ([.str "use", .str "a", .str "b"] : List V)) wq = _ := upd_same
  refine ⟨(by rw [sizeLine_eq]; show 4 ≤ _; omega), fun p0 np0 => ?_⟩
  have s8 := same_new (o := .tup ([.int 0, .int 1, .ref n, .ref wq] : List V)) np0
  have hp8 : upd (upd H6 wq (.tup ([.str "use", .str "a", .str "b"] : List V))) p0 (.tup ([.int 0, .int 1, .ref n, .ref wq] : List V)) p0 = _ := upd_same
  refine ⟨(by rw [sizeLine_eq]; show 1 ≤ _; omega), fun m9 nm9 => ?_⟩
  have s9 := same_new (o := .lst ([.ref p0] : List V)) nm9
  have hm9 : upd (upd (upd H6 wq (.tup ([.str "use", .str "a", .str "b"] : List V))) p0 (.tup ([.int 0, .int 1, .ref n, .ref wq] : List V))) m9 (.lst ([.ref p0] : List V)) m9 = _ := upd_same
  have t9 := s6.trans (s7.trans (s8.trans s9))
  have ha9 : ActAt (upd (upd (upd H6 wq (.tup ([.str "use", .str "a", .str "b"] : List V))) p0 (.tup ([.int 0, .int 1, .ref n, .ref wq] : List V))) m9 (.lst ([.ref p0] : List V))) p0 ⟨0, 1, List.replicate many 0, .use "a" "b"⟩ :=
    ⟨n, wq, s9 _ _ hp8, (s7.trans (s8.trans s9)) _ _ hn6, (s8.trans s9) _ _ hw7⟩
  generalize upd (upd (upd H6 wq (.tup ([.str "use", .str "a", .str "b"] : List V))) p0 (.tup ([.int 0, .int 1, .ref n, .ref wq] : List V))) m9 (.lst ([.ref p0] : List V)) = H9 at t9 hm9 ha9 ⊢
  have sz : ((ps.take 40).map V.ref).length ≤ 40 := by
    rw [List.length_map, List.length_take]
    omega
  refine ⟨l, m9, _, _, rfl, rfl, t9 _ _ hl5, hm9, (by rw [sizeLine_eq]; show _ + 1 ≤ _; omega), fun l2 nl2 => ?_⟩
  have e2 : (ps.take 40).map V.ref ++ [V.ref p0] = (ps.take 40 ++ [p0]).map V.ref := by rw [List.map_append]; rfl
  rw [e2]
  have s10 := same_new (o := .lst ((ps.take 40 ++ [p0]).map V.ref)) nl2
  have hl2 : upd H9 l2 (.lst ((ps.take 40 ++ [p0]).map V.ref)) l2 = _ := upd_same
  have T9 := T4.same (s5.trans t9)
  have nl2T := T9.neT nl2
  have st10 : ∀ p ∈ ps.take 40 ++ [p0], Straight many (upd H9 l2 (.lst ((ps.take 40 ++ [p0]).map V.ref))) p := fun p mp => by
    rcases List.mem_append.mp mp with mp | mp
    · exact (straight4 p (List.mem_of_mem_take mp)).keep (S := []) (.of ((s5.trans t9).trans s10))
    · rw [List.mem_singleton.mp mp]
      exact ⟨_, ha9.keep (S := []) (.of s10), List.length_replicate, (by show (0 : Int) ≤ 0; omega), (by show (0 : Int) < many; omega), (by show (1 : Int) ≤ 1; omega), (by show (1 : Int) ≤ 1000; omega), (by constructor <;> exact ⟨by decide +kernel, by decide +kernel, by decide +kernel⟩)⟩
  have T10 := T9.same s10
  generalize upd H9 l2 (.lst ((ps.take 40 ++ [p0]).map V.ref)) = H10 at hl2 st10 T10 ⊢
  have lL : (ps.take 40 ++ [p0]).length ≤ 41 := by
    rw [List.length_append, List.length_take, List.length_singleton]
    omega
  generalize ps.take 40 ++ [p0] = L at hl2 st10 lL ⊢
  refine ⟨_, rfl, l2, _, rfl, .inl (sqL hl2), _, rfl, (by omega), (by rw [List.length_map]; omega), for_range (lo := 0) (n := (((L.map V.ref).length : Nat) : Int).toNat) (fun i σ H' => ∃ v4 v5 v6, σ = [some (.ref a), some (.ref t), some (.int (many : Int)), some (.ref l2), v4, v5, v6, none] ∧ TrayAt H' t g (2401 + 100 * i) ∧ H' l2 = some (.lst (L.map V.ref)) ∧ ∀ p ∈ L, Straight many H' p)
    ⟨none, none, none, rfl, T10.mono (by omega), hl2, st10⟩ ?_ ?_⟩
  · rintro i σ H11 hi ⟨v4, v5, v6, rfl, T11, hl11, st11⟩
    have hiL : i < L.length := by
      rw [List.length_map] at hi
      omega
    obtain ⟨p, hp⟩ : ∃ p, L[i]? = some p := ⟨L[i], List.getElem?_eq_getElem hiL⟩
    have hpm := List.mem_of_getElem? hp
    rw [Int.zero_add]
    have hat : atI (L.map V.ref) (i : Int) = some (.ref p) := atI_nat (by rw [List.getElem?_map, hp]; rfl)
    refine ⟨_, rfl, _, rfl, l2, _, _, _, rfl, rfl, sqL hl11, hat, (by rw [sizeLine_eq]; show 1 ≤ _; omega), fun l3 nl3 => ?_⟩
    have s12 := same_new (o := .lst ([.ref p] : List V)) nl3
    have hl3 : upd H11 l3 (.lst ([.ref p] : List V)) l3 = _ := upd_same
    have T12 := T11.same s12
    have nl3T := T11.neT nl3
    have hl12 := s12 _ _ hl11
    have st12 : ∀ y ∈ L, Straight many (upd H11 l3 (.lst ([.ref p] : List V))) y := fun y my => (st11 y my).keep (S := []) (.of s12)
    generalize upd H11 l3 (.lst ([.ref p] : List V)) = H12 at hl3 T12 hl12 st12 ⊢
    refine ⟨4, rfl, by decide, by decide, fun D nD => ?_⟩
    have nDT := T12.neT nD
    have fit : ∀ {x : Act}, 0 ≤ x.who → x.who < (many : Int) → 1 ≤ x.num → x.num ≤ 1000 → IntOk x.who ∧ IntOk x.num := fun h1 h2 h3 h4 => ⟨intOk_inB (by omega) (by omega), intOk_inB (by omega) (by omega)⟩
    refine lc_range (lo := 0) (n := 4) (fun j H' => ∃ qs : List Addr, H' D = some (.lst (qs.map V.ref)) ∧ qs.length = j ∧ (∀ p ∈ qs, Seen H' p) ∧ TrayAt H' t g (2401 + 100 * i + 6 * j) ∧ Kp [t, g] H12 H') ⟨[], upd_same, rfl, by simp, (T12.same (same_new nD)).mono (by omega), .new nD⟩ ?_ ?_
    · rintro j H13 hj ⟨qs, hD, hl, hg, T13, k13⟩
      have hl13 := k13.lst hl12 nl2T
      obtain ⟨x, hx, x1, x2, x3, x4, x5, x6⟩ := (st12 p hpm).keep k13
      refine ⟨rfl, _, rfl, _, rfl, _, rfl, _, rfl, l2, _, _, _, rfl, rfl, sqL hl13, hat, t, g, p, _, many, x, rfl, T13, by omega, b1, b6, hx, x1, x2, x3, x4, x5, x6, fun H14 p' b np hb i1 i2 i3 T14 k14 => ?_⟩
      have k15 : Kp [D] H14 (upd H14 D (.lst (qs.map V.ref ++ [.ref p']))) := .set (k14.lst hD nDT) (by simp)
      refine ⟨_, k14.lst hD nDT, ?_, qs ++ [p'], ?_, ?_, fun y my => ?_, (T14.over nDT).mono (by omega), (k13.trans k14).over nD⟩
      · rw [List.length_map]
        exact small1000 (by omega)
      · rw [upd_same, List.map_append]
        rfl
      · rw [List.length_append, hl]
        rfl
      · rcases List.mem_append.mp my with my | my
        · exact ((hg y my).keep k14).keep k15
        · rw [List.mem_singleton.mp my]
          exact Seen.keep ⟨b, hb, i1, i2⟩ k15
    rintro H13 ⟨qs, hD, hl, hg, T13, k13⟩
    have hl13 := k13.lst hl12 nl2T
    have hl3' := k13.lst hl3 nl3T
    have seen13 : ∀ y ∈ p :: qs, Seen H13 y := fun y my => by
      rcases List.mem_cons.mp my with rfl | my
      · obtain ⟨x, hx, x1, x2, x3, x4, x5, x6⟩ := (st12 y hpm).keep k13
        exact ⟨x, hx, fit x2 x3 x4 x5⟩
      · exact hg y my
    refine ⟨l3, D, _, _, rfl, rfl, hl3', hD, ?_, fun l4 nl4 => ?_⟩
    · rw [List.length_map, hl, sizeLine_eq]
      show 1 + 4 ≤ _
      omega
    have e4 : ([.ref p] : List V) ++ qs.map V.ref = (p :: qs).map V.ref := rfl
    rw [e4]
    have s14 := same_new (o := .lst ((p :: qs).map V.ref)) nl4
    have hl4 : upd H13 l4 (.lst ((p :: qs).map V.ref)) l4 = _ := upd_same
    have T14 := T13.same s14
    have hl14 := s14 _ _ hl13
    have st14 : ∀ y ∈ L, Straight many (upd H13 l4 (.lst ((p :: qs).map V.ref))) y := fun y my => ((st12 y my).keep k13).keep (S := []) (.of s14)
    have seen14 : ∀ y ∈ p :: qs, Seen (upd H13 l4 (.lst ((p :: qs).map V.ref))) y := fun y my => (seen13 y my).keep (S := []) (.of s14)
    have l5 : (p :: qs).length = 5 := by rw [List.length_cons, hl]
    generalize upd H13 l4 (.lst ((p :: qs).map V.ref)) = H14 at hl4 T14 hl14 st14 seen14 ⊢
    generalize p :: qs = M at hl4 seen14 l5 ⊢
    refine ⟨l4, rfl, ⟨_, sqL hl4⟩, for_list (K := K) (a := l4) (xs := M.map V.ref) (fun j σ H' => ∃ v5 v6, σ = [some (.ref a), some (.ref t), some (.int (many : Int)), some (.ref l2), some (.int (i : Int)), v5, v6, none] ∧ Same H14 H')
      ⟨_, _, rfl, .refl _⟩ (fun j σ H' _ ⟨_, _, _, h⟩ => sqL (h _ _ hl4)) ?_ ?_⟩
    · rintro j y σ H15 hj ⟨v5, v6, rfl, s15⟩
      rw [List.getElem?_map] at hj
      obtain ⟨y, hy, rfl⟩ := Option.map_eq_some_iff.mp hj
      obtain ⟨x, hx, i1, i2⟩ := (seen14 y (List.mem_of_getElem? hy)).keep (S := []) (.of s15)
      have out : ∀ (τ : L2.St) (H16 : Hp), Same H15 H16 → (∃ v5 v6, τ = [some (.ref a), some (.ref t), some (.int (many : Int)), some (.ref l2), some (.int (i : Int)), v5, v6, none]) → ∃ v5 v6, τ = [some (.ref a), some (.ref t), some (.int (many : Int)), some (.ref l2), some (.int (i : Int)), v5, v6, none] ∧ Same H14 H16 := fun τ H16 s16 ⟨v5, v6, e⟩ => ⟨v5, v6, e, s15.trans s16⟩
      refine ⟨_, rfl, _, rfl, y, many, x, rfl, hx, b6, fun H16 s16 => ⟨_, rfl, ite2 (fun c => ?_) (fun c => ?_)⟩⟩
      · have gd := (Act.isGood_iff x many).mp c
        refine ⟨(by rw [sizeLine_eq]; show 1 ≤ _; omega), fun d nd => ?_⟩
        have s17 := same_new (o := .lst ([.non] : List V)) nd
        have hd : upd H16 d (.lst ([.non] : List V)) d = _ := upd_same
        refine ⟨_, rfl, _, rfl, _, rfl, y, i, many, x, rfl, hx.keep (S := []) (.of (s16.trans s17)), b1, i1, i2, fun _ r H18 s18 nr hr18 => ?_, fun ng => absurd gd ng⟩
        refine ⟨_, rfl, _, _, rfl, Al.list hr18 (s18 _ _ hd) (by show 1 ≤ 1000; decide) (.cons (Al.flat rfl) .nil), fun H19 s19 => ⟨true, rfl, iteF (out _ _ (((s16.trans s17).trans s18).trans s19) ⟨_, _, rfl⟩)⟩⟩
      · have nb : ¬ x.good many := fun z => c ((Act.isGood_iff x many).mpr z)
        have hx16 := hx.keep (S := []) (.of s16)
        obtain ⟨n1, q1, e1, e2, e3⟩ := id hx16
        refine ⟨_, rfl, y, _, _, _, rfl, rfl, sqT e1, rfl, _, rfl, y, _, _, _, rfl, rfl, sqT e1, rfl, (by rw [sizeLine_eq]; show 2 ≤ _; omega), fun u nu => ?_⟩
        have s17 := same_new (o := .tup ([.int x.who, .int x.num] : List V)) nu
        have hu : upd H16 u (.tup ([.int x.who, .int x.num] : List V)) u = _ := upd_same
        refine ⟨(by rw [sizeLine_eq]; show 3 ≤ _; omega), fun d nd => ?_⟩
        have s18 := same_new (o := .lst ([.str "NoDeed", .ref u, .bl true] : List V)) nd
        have hd : upd (upd H16 u (.tup ([.int x.who, .int x.num] : List V))) d (.lst ([.str "NoDeed", .ref u, .bl true] : List V)) d = _ := upd_same
        have hu18 := s18 _ _ hu
        generalize upd (upd H16 u (.tup ([.int x.who, .int x.num] : List V))) d (.lst ([.str "NoDeed", .ref u, .bl true] : List V)) = H18 at s18 hd hu18 ⊢
        refine ⟨_, rfl, _, rfl, _, rfl, y, i, many, x, rfl, hx16.keep (S := []) (.of (s17.trans s18)), b1, i1, i2, fun gd => absurd gd nb, fun _ r m H20 s20 nr hm20 hr20 => ?_⟩
        refine ⟨_, rfl, _, _, rfl, Al.list hr20 (s20 _ _ hd) (by show 3 ≤ 1000; decide) (.cons (Al.flat rfl) (.cons (Al.tup hm20 (s20 _ _ hu18) (by show 2 ≤ 1000; decide) (.cons (Al.flat rfl) (.cons (Al.flat rfl) .nil))) (.cons (Al.flat rfl) .nil))), fun H19 s19 => ⟨true, rfl, iteF (out _ _ ((((s16.trans s17).trans s18).trans s20).trans s19) ⟨_, _, rfl⟩)⟩⟩
    · rintro σ H15 ⟨v5, v6, rfl, s15⟩
      exact ⟨_, _, _, rfl, (T14.same s15).mono (by omega), s15 _ _ hl14, fun y my => (st14 y my).keep (S := []) (.of s15)⟩
  · rintro σ H11 ⟨v4, v5, v6, rfl, T11, hl11, st11⟩
    exact q _
end
end FR


namespace FR
open PySem PySem.Spec PyProof.Rows L2 NdefX
/-- what the written part says of an own error class at a name -/
structure Cf (P : Program) (K : PySem.W.Frag) (mg : Str → Option Value) (x : Str) (C fI cc cda : Addr) : Prop where
  m : mg x = some (.ref C)
  i : PySem.W.findIn K (.ref C) "__init__" = some (some (.ref fI))
  ti : PySem.W.typeIn K (.ref fI) = some (.type "function")
  cell : ∃ (cl : Value) (cld : Option Addr) (csl : Array (Option Value)), K.lookup cc = some ⟨cl, cld, .cell (some (.ref C)), csl⟩
  ow : OexC K C
  al : PySem.W.ks_superIn K C C "__init__" = some (some (.builtin "ValueError.__init__"))
  sub : PySem.W.mroIn K C (.ref C) = some true
  ve : PySem.W.subIn K (.ref C) (.type "ValueError") = some true
  co : ∃ (cc : Value) (cd : Option Addr) (vs : Array Value) (cs : Array (Option Value)) (file : Str) (tf : Tok), K.lookup cda = some ⟨cc, cd, .fields vs, cs⟩ ∧ vs[2]? = some (.str file tf) ∧ ((P.main.file : Str) == file) = true
  nw : PySem.W.findIn K (.ref C) "what" = some none
  xf : XfC K C
/-- what is said once -/
structure Once (P : Program) (K : PySem.W.Frag) (mg : Str → Option Value) : Prop where
  op : PySem.W.nsIn K cStatics "thirdparty.any" = some none
  un : mg "super" = none
  top : (P.main.scope.names.lookup ("super" : Str)).isSome = false
section
variable {P : Program} {w : World} {K : PySem.W.Frag} {mg : Str → Option Value} {base : Heap}
abbrev sI0 : Stmt := inClass (top 3) 0
theorem err0 {C fI cc cda : Addr} {oc kV doc pm ct : Value} {od an : Option Addr} {osl : Array (Option Value)} (U : Once P K mg) (c : Cf P K mg "NoDeed" C fI cc cda)
    (l : K.lookup fI = some ⟨oc, od, .func (PySem.W.fnX "__init__" "NoDeed.__init__" (defArgs sI0) (defBody sI0) (defScope sI0) [("__class__", cc)] .none kV doc pm an (.ref cda) ct), osl⟩) (cd : PySem.W.codeIn K (.ref cda) "NoDeed.__init__" = true) :
    ErrM P w K mg base 1 "NoDeed" C fI (PySem.W.fnX "__init__" "NoDeed.__init__" (defArgs sI0) (defBody sI0) (defScope sI0) [("__class__", cc)] .none kV doc pm an (.ref cda) ct) := by
  obtain ⟨cl, cld, csl, lc⟩ := c.cell
  have T : SupC P K mg C fI cda "self" := ⟨c.ow, c.al, c.sub, c.ve, U.op, U.un, ⟨_, _, _, _, _, l, rfl, rfl⟩, c.co, U.top⟩
  refine ⟨⟨c.ow, c.i, c.ti, ?_, fun s us _ hl => ?_, c.m⟩, c.xf, c.nw, fun s us ws _ h1 h2 => ?_, fun r rz => r.append rz⟩
  · exact ok_init (msg := "no good deed: ") l cd lc T (nscope_by (by decide +kernel)) (by decide +kernel) c.nw (by decide) fun L => ⟨_, rfl⟩
  · match us, hl with
    | [_, _], _ => exact .of_eq rfl
  · match us, ws, h1, h2 with
    | [_], [_], _, _ => exact .of_eq rfl
abbrev sI1 : Stmt := inClass (top 6) 0
theorem err1 {C fI cc cda : Addr} {oc kV doc pm ct : Value} {od an : Option Addr} {osl : Array (Option Value)} (U : Once P K mg) (c : Cf P K mg "NoKind" C fI cc cda)
    (l : K.lookup fI = some ⟨oc, od, .func (PySem.W.fnX "__init__" "NoKind.__init__" (defArgs sI1) (defBody sI1) (defScope sI1) [("__class__", cc)] .none kV doc pm an (.ref cda) ct), osl⟩) (cd : PySem.W.codeIn K (.ref cda) "NoKind.__init__" = true) :
    ErrM P w K mg base 1 "NoKind" C fI (PySem.W.fnX "__init__" "NoKind.__init__" (defArgs sI1) (defBody sI1) (defScope sI1) [("__class__", cc)] .none kV doc pm an (.ref cda) ct) := by
  obtain ⟨cl, cld, csl, lc⟩ := c.cell
  have T : SupC P K mg C fI cda "self" := ⟨c.ow, c.al, c.sub, c.ve, U.op, U.un, ⟨_, _, _, _, _, l, rfl, rfl⟩, c.co, U.top⟩
  refine ⟨⟨c.ow, c.i, c.ti, ?_, fun s us _ hl => ?_, c.m⟩, c.xf, c.nw, fun s us ws _ h1 h2 => ?_, fun r rz => r.append rz⟩
  · exact ok_init (msg := "no such kind: ") l cd lc T (nscope_by (by decide +kernel)) (by decide +kernel) c.nw (by decide) fun L => ⟨_, rfl⟩
  · match us, hl with
    | [_, _], _ => exact .of_eq rfl
  · match us, ws, h1, h2 with
    | [_], [_], _, _ => exact .of_eq rfl
abbrev sI2 : Stmt := inClass (top 7) 0
theorem err2 {C fI cc cda : Addr} {oc kV doc pm ct : Value} {od an : Option Addr} {osl : Array (Option Value)} (U : Once P K mg) (c : Cf P K mg "NoMark" C fI cc cda)
    (l : K.lookup fI = some ⟨oc, od, .func (PySem.W.fnX "__init__" "NoMark.__init__" (defArgs sI2) (defBody sI2) (defScope sI2) [("__class__", cc)] .none kV doc pm an (.ref cda) ct), osl⟩) (cd : PySem.W.codeIn K (.ref cda) "NoMark.__init__" = true) :
    ErrM P w K mg base 1 "NoMark" C fI (PySem.W.fnX "__init__" "NoMark.__init__" (defArgs sI2) (defBody sI2) (defScope sI2) [("__class__", cc)] .none kV doc pm an (.ref cda) ct) := by
  obtain ⟨cl, cld, csl, lc⟩ := c.cell
  have T : SupC P K mg C fI cda "self" := ⟨c.ow, c.al, c.sub, c.ve, U.op, U.un, ⟨_, _, _, _, _, l, rfl, rfl⟩, c.co, U.top⟩
  refine ⟨⟨c.ow, c.i, c.ti, ?_, fun s us _ hl => ?_, c.m⟩, c.xf, c.nw, fun s us ws _ h1 h2 => ?_, fun r rz => r.append rz⟩
  · exact ok_init (msg := "no deed of this mark: ") l cd lc T (nscope_by (by decide +kernel)) (by decide +kernel) c.nw (by decide) fun L => ⟨_, rfl⟩
  · match us, hl with
    | [_, _], _ => exact .of_eq rfl
  · match us, ws, h1, h2 with
    | [_], [_], _, _ => exact .of_eq rfl
abbrev sI3 : Stmt := inClass (top 5) 0
theorem err3 {C fI cc cda : Addr} {oc kV doc pm ct : Value} {od an : Option Addr} {osl : Array (Option Value)} (U : Once P K mg) (c : Cf P K mg "NoMember" C fI cc cda)
    (l : K.lookup fI = some ⟨oc, od, .func (PySem.W.fnX "__init__" "NoMember.__init__" (defArgs sI3) (defBody sI3) (defScope sI3) [("__class__", cc)] .none kV doc pm an (.ref cda) ct), osl⟩) (cd : PySem.W.codeIn K (.ref cda) "NoMember.__init__" = true) :
    ErrM P w K mg base 1 "NoMember" C fI (PySem.W.fnX "__init__" "NoMember.__init__" (defArgs sI3) (defBody sI3) (defScope sI3) [("__class__", cc)] .none kV doc pm an (.ref cda) ct) := by
  obtain ⟨cl, cld, csl, lc⟩ := c.cell
  have T : SupC P K mg C fI cda "self" := ⟨c.ow, c.al, c.sub, c.ve, U.op, U.un, ⟨_, _, _, _, _, l, rfl, rfl⟩, c.co, U.top⟩
  refine ⟨⟨c.ow, c.i, c.ti, ?_, fun s us _ hl => ?_, c.m⟩, c.xf, c.nw, fun s us ws _ h1 h2 => ?_, fun r rz => r.append rz⟩
  · exact ok_init (msg := "no such member: ") l cd lc T (nscope_by (by decide +kernel)) (by decide +kernel) c.nw (by decide) fun L => ⟨_, rfl⟩
  · match us, hl with
    | [_, _], _ => exact .of_eq rfl
  · match us, ws, h1, h2 with
    | [_], [_], _, _ => exact .of_eq rfl
abbrev sI4 : Stmt := inClass (top 2) 0
theorem err4 {C fI cc cda : Addr} {oc kV doc pm ct : Value} {od an : Option Addr} {osl : Array (Option Value)} (U : Once P K mg) (c : Cf P K mg "NoMembers" C fI cc cda)
    (l : K.lookup fI = some ⟨oc, od, .func (PySem.W.fnX "__init__" "NoMembers.__init__" (defArgs sI4) (defBody sI4) (defScope sI4) [("__class__", cc)] .none kV doc pm an (.ref cda) ct), osl⟩) (cd : PySem.W.codeIn K (.ref cda) "NoMembers.__init__" = true) :
    ErrM P w K mg base 1 "NoMembers" C fI (PySem.W.fnX "__init__" "NoMembers.__init__" (defArgs sI4) (defBody sI4) (defScope sI4) [("__class__", cc)] .none kV doc pm an (.ref cda) ct) := by
  obtain ⟨cl, cld, csl, lc⟩ := c.cell
  have T : SupC P K mg C fI cda "self" := ⟨c.ow, c.al, c.sub, c.ve, U.op, U.un, ⟨_, _, _, _, _, l, rfl, rfl⟩, c.co, U.top⟩
  refine ⟨⟨c.ow, c.i, c.ti, ?_, fun s us _ hl => ?_, c.m⟩, c.xf, c.nw, fun s us ws _ h1 h2 => ?_, fun r rz => r.append rz⟩
  · exact ok_init (msg := "no such number of members: ") l cd lc T (nscope_by (by decide +kernel)) (by decide +kernel) c.nw (by decide) fun L => ⟨_, rfl⟩
  · match us, hl with
    | [_, _], _ => exact .of_eq rfl
  · match us, ws, h1, h2 with
    | [_], [_], _, _ => exact .of_eq rfl
abbrev sI5 : Stmt := inClass (top 9) 0
theorem err5 {C fI cc cda : Addr} {oc kV doc pm ct : Value} {od an : Option Addr} {osl : Array (Option Value)} (U : Once P K mg) (c : Cf P K mg "NoText" C fI cc cda)
    (l : K.lookup fI = some ⟨oc, od, .func (PySem.W.fnX "__init__" "NoText.__init__" (defArgs sI5) (defBody sI5) (defScope sI5) [("__class__", cc)] .none kV doc pm an (.ref cda) ct), osl⟩) (cd : PySem.W.codeIn K (.ref cda) "NoText.__init__" = true) :
    ErrM P w K mg base 1 "NoText" C fI (PySem.W.fnX "__init__" "NoText.__init__" (defArgs sI5) (defBody sI5) (defScope sI5) [("__class__", cc)] .none kV doc pm an (.ref cda) ct) := by
  obtain ⟨cl, cld, csl, lc⟩ := c.cell
  have T : SupC P K mg C fI cda "self" := ⟨c.ow, c.al, c.sub, c.ve, U.op, U.un, ⟨_, _, _, _, _, l, rfl, rfl⟩, c.co, U.top⟩
  refine ⟨⟨c.ow, c.i, c.ti, ?_, fun s us _ hl => ?_, c.m⟩, c.xf, c.nw, fun s us ws _ h1 h2 => ?_, fun r rz => r.append rz⟩
  · exact ok_init (msg := "no such text: ") l cd lc T (nscope_by (by decide +kernel)) (by decide +kernel) c.nw (by decide) fun L => ⟨_, rfl⟩
  · match us, hl with
    | [_, _], _ => exact .of_eq rfl
  · match us, ws, h1, h2 with
    | [_], [_], _, _ => exact .of_eq rfl
abbrev sI6 : Stmt := inClass (top 8) 0
theorem err6 {C fI cc cda : Addr} {oc kV doc pm ct : Value} {od an : Option Addr} {osl : Array (Option Value)} (U : Once P K mg) (c : Cf P K mg "NoUse" C fI cc cda)
    (l : K.lookup fI = some ⟨oc, od, .func (PySem.W.fnX "__init__" "NoUse.__init__" (defArgs sI6) (defBody sI6) (defScope sI6) [("__class__", cc)] .none kV doc pm an (.ref cda) ct), osl⟩) (cd : PySem.W.codeIn K (.ref cda) "NoUse.__init__" = true) :
    ErrM P w K mg base 1 "NoUse" C fI (PySem.W.fnX "__init__" "NoUse.__init__" (defArgs sI6) (defBody sI6) (defScope sI6) [("__class__", cc)] .none kV doc pm an (.ref cda) ct) := by
  obtain ⟨cl, cld, csl, lc⟩ := c.cell
  have T : SupC P K mg C fI cda "self" := ⟨c.ow, c.al, c.sub, c.ve, U.op, U.un, ⟨_, _, _, _, _, l, rfl, rfl⟩, c.co, U.top⟩
  refine ⟨⟨c.ow, c.i, c.ti, ?_, fun s us _ hl => ?_, c.m⟩, c.xf, c.nw, fun s us ws _ h1 h2 => ?_, fun r rz => r.append rz⟩
  · exact ok_init (msg := "no use: ") l cd lc T (nscope_by (by decide +kernel)) (by decide +kernel) c.nw (by decide) fun L => ⟨_, rfl⟩
  · match us, hl with
    | [_, _], _ => exact .of_eq rfl
  · match us, ws, h1, h2 with
    | [_], [_], _, _ => exact .of_eq rfl
abbrev sI7 : Stmt := inClass (top 4) 0
theorem err7 {C fI cc cda : Addr} {oc kV doc pm ct : Value} {od an : Option Addr} {osl : Array (Option Value)} (U : Once P K mg) (c : Cf P K mg "TwoFaced" C fI cc cda)
    (l : K.lookup fI = some ⟨oc, od, .func (PySem.W.fnX "__init__" "TwoFaced.__init__" (defArgs sI7) (defBody sI7) (defScope sI7) [("__class__", cc)] .none kV doc pm an (.ref cda) ct), osl⟩) (cd : PySem.W.codeIn K (.ref cda) "TwoFaced.__init__" = true) :
    ErrM P w K mg base 1 "TwoFaced" C fI (PySem.W.fnX "__init__" "TwoFaced.__init__" (defArgs sI7) (defBody sI7) (defScope sI7) [("__class__", cc)] .none kV doc pm an (.ref cda) ct) := by
  obtain ⟨cl, cld, csl, lc⟩ := c.cell
  have T : SupC P K mg C fI cda "self" := ⟨c.ow, c.al, c.sub, c.ve, U.op, U.un, ⟨_, _, _, _, _, l, rfl, rfl⟩, c.co, U.top⟩
  refine ⟨⟨c.ow, c.i, c.ti, ?_, fun s us _ hl => ?_, c.m⟩, c.xf, c.nw, fun s us ws _ h1 h2 => ?_, fun r rz => r.append rz⟩
  · exact ok_init (msg := "two unlike deeds of one mark: ") l cd lc T (nscope_by (by decide +kernel)) (by decide +kernel) c.nw (by decide) fun L => ⟨_, rfl⟩
  · match us, hl with
    | [_, _], _ => exact .of_eq rfl
  · match us, ws, h1, h2 with
    | [_], [_], _, _ => exact .of_eq rfl
end
end FR

namespace FR
open PySem L2
theorem alike0 {P : Program} {w : World} {K : PySem.W.Frag} {mg : Str → Option Value} {base : Heap} {f : Addr} {fd : FuncData} : FnOk P w K mg base CX0 0 f fd ["found", "due"] (spAlike 0) := by
  have no : ∀ vs H Q E, ¬ spAlike 0 vs H Q E := fun vs H Q E h => by
    obtain ⟨x, y, _, h, _⟩ := h
    exact h
  exact ⟨fun vs H Q E h => absurd h (no vs H Q E), fun A outer s H args us vs Q E _ _ _ _ h => absurd h (no vs H Q E)⟩
def sel8 {α : Type} (a b c d e f g h : α) : Nat → α
  | 0 => a
  | 1 => b
  | 2 => c
  | 3 => d
  | 4 => e
  | 5 => f
  | 6 => g
  | _ => h
theorem ok_errs' {P : Program} {w : World} {K : PySem.W.Frag} {mg : Str → Option Value} {base : Heap} {k j : Nat} {c0 c1 c2 c3 c4 c5 c6 c7 i0 i1 i2 i3 i4 i5 i6 i7 : Addr} {d0 d1 d2 d3 d4 d5 d6 d7 : FuncData} {f fL : Addr} {fd fdL : FuncData} (F : Fun K "_law_errors_right" "_law_errors_right" sErrsRight f fd) (hj : j + 1 ≤ k)
    (M0 : ErrM P w K mg base j "NoDeed" c0 i0 d0) (M1 : ErrM P w K mg base j "NoKind" c1 i1 d1) (M2 : ErrM P w K mg base j "NoMark" c2 i2 d2) (M3 : ErrM P w K mg base j "NoMember" c3 i3 d3)
    (M4 : ErrM P w K mg base j "NoMembers" c4 i4 d4) (M5 : ErrM P w K mg base j "NoText" c5 i5 d5) (M6 : ErrM P w K mg base j "NoUse" c6 i6 d6) (M7 : ErrM P w K mg base j "TwoFaced" c7 i7 d7)
    (L : Cal P w K mg base k "_law_alike" ["found", "due"] (spAlike 3) fL fdL) : FnOk P w K mg base CX0 (k + 1) f fd ["number"] spErrs :=
  ok_errs (c := sel8 c0 c1 c2 c3 c4 c5 c6 c7) (fI := sel8 i0 i1 i2 i3 i4 i5 i6 i7) (fdI := sel8 d0 d1 d2 d3 d4 d5 d6 d7) F hj M0 M1 M2 M3 M4 M5 M6 M7 L
theorem all_mk {l : PySem.W.OpenLaw} {w : World} {K : PySem.W.Frag} {h : Heap} {mg : Str → Option Value} {fa f1 f2 f3 f4 f5 f6 f7 f8 f9 f10 f11 f12 f13 f14 f15 f16 f17 f18 : Addr} (X : K.In h) (G : h.Ns mainGlobals mg) (hfa : mg "law" = some (.ref fa))
    {od1 an1 od2 an2 od3 an3 od4 an4 od5 an5 od6 an6 od7 an7 od8 an8 od9 an9 od10 an10 od11 an11 od12 an12 od13 an13 od14 an14 od15 an15 od16 an16 od17 an17 od18 an18 : Option Addr} {sl1 sl2 sl3 sl4 sl5 sl6 sl7 sl8 sl9 sl10 sl11 sl12 sl13 sl14 sl15 sl16 sl17 sl18 : Array (Option Value)}
    {oc1 kV1 dc1 pm1 cd1 ct1 oc2 kV2 dc2 pm2 cd2 ct2 oc3 kV3 dc3 pm3 cd3 ct3 oc4 kV4 dc4 pm4 cd4 ct4 oc5 kV5 dc5 pm5 cd5 ct5 oc6 kV6 dc6 pm6 cd6 ct6 oc7 kV7 dc7 pm7 cd7 ct7 oc8 kV8 dc8 pm8 cd8 ct8 oc9 kV9 dc9 pm9 cd9 ct9 oc10 kV10 dc10 pm10 cd10 ct10 oc11 kV11 dc11 pm11 cd11 ct11 oc12 kV12 dc12 pm12 cd12 ct12 oc13 kV13 dc13 pm13 cd13 ct13 oc14 kV14 dc14 pm14 cd14 ct14 oc15 kV15 dc15 pm15 cd15 ct15 oc16 kV16 dc16 pm16 cd16 ct16 oc17 kV17 dc17 pm17 cd17 ct17 oc18 kV18 dc18 pm18 cd18 ct18 : Value}
    (a1 : PySem.W.nsIn K mainGlobals "look" = some (some (.ref f1))) (l1 : K.lookup f1 = some ⟨oc1, od1, .func (PySem.W.fnOf "look" "look" (defArgs sLook) (defBody sLook) (defScope sLook) .none kV1 dc1 pm1 an1 cd1 ct1), sl1⟩)
    (c1 : PySem.W.codeIn K cd1 "look" = true) (k1 : PySem.W.keepIn K (.ref f1) = true)
    (a2 : PySem.W.nsIn K mainGlobals "mark" = some (some (.ref f2))) (l2 : K.lookup f2 = some ⟨oc2, od2, .func (PySem.W.fnOf "mark" "mark" (defArgs sMark) (defBody sMark) (defScope sMark) .none kV2 dc2 pm2 an2 cd2 ct2), sl2⟩)
    (c2 : PySem.W.codeIn K cd2 "mark" = true) (k2 : PySem.W.keepIn K (.ref f2) = true)
    (a3 : PySem.W.nsIn K mainGlobals "_has_mark" = some (some (.ref f3))) (l3 : K.lookup f3 = some ⟨oc3, od3, .func (PySem.W.fnOf "_has_mark" "_has_mark" (defArgs sHasMark) (defBody sHasMark) (defScope sHasMark) .none kV3 dc3 pm3 an3 cd3 ct3), sl3⟩)
    (c3 : PySem.W.codeIn K cd3 "_has_mark" = true) (k3 : PySem.W.keepIn K (.ref f3) = true)
    (a4 : PySem.W.nsIn K mainGlobals "_has_note" = some (some (.ref f4))) (l4 : K.lookup f4 = some ⟨oc4, od4, .func (PySem.W.fnOf "_has_note" "_has_note" (defArgs sHasNote) (defBody sHasNote) (defScope sHasNote) .none kV4 dc4 pm4 an4 cd4 ct4), sl4⟩)
    (c4 : PySem.W.codeIn K cd4 "_has_note" = true) (k4 : PySem.W.keepIn K (.ref f4) = true)
    (a5 : PySem.W.nsIn K mainGlobals "_goes_down" = some (some (.ref f5))) (l5 : K.lookup f5 = some ⟨oc5, od5, .func (PySem.W.fnOf "_goes_down" "_goes_down" (defArgs sDown) (defBody sDown) (defScope sDown) .none kV5 dc5 pm5 an5 cd5 ct5), sl5⟩)
    (c5 : PySem.W.codeIn K cd5 "_goes_down" = true) (k5 : PySem.W.keepIn K (.ref f5) = true)
    (a6 : PySem.W.nsIn K mainGlobals "_law_tray" = some (some (.ref f6))) (l6 : K.lookup f6 = some ⟨oc6, od6, .func (PySem.W.fnOf "_law_tray" "_law_tray" (defArgs sTray) (defBody sTray) (defScope sTray) .none kV6 dc6 pm6 an6 cd6 ct6), sl6⟩)
    (c6 : PySem.W.codeIn K cd6 "_law_tray" = true) (k6 : PySem.W.keepIn K (.ref f6) = true)
    (a7 : PySem.W.nsIn K mainGlobals "_law_draw" = some (some (.ref f7))) (l7 : K.lookup f7 = some ⟨oc7, od7, .func (PySem.W.fnOf "_law_draw" "_law_draw" (defArgs sDraw) (defBody sDraw) (defScope sDraw) .none kV7 dc7 pm7 an7 cd7 ct7), sl7⟩)
    (c7 : PySem.W.codeIn K cd7 "_law_draw" = true) (k7 : PySem.W.keepIn K (.ref f7) = true)
    (a8 : PySem.W.nsIn K mainGlobals "_law_word" = some (some (.ref f8))) (l8 : K.lookup f8 = some ⟨oc8, od8, .func (PySem.W.fnOf "_law_word" "_law_word" (defArgs sWord) (defBody sWord) (defScope sWord) .none kV8 dc8 pm8 an8 cd8 ct8), sl8⟩)
    (c8 : PySem.W.codeIn K cd8 "_law_word" = true) (k8 : PySem.W.keepIn K (.ref f8) = true)
    (a9 : PySem.W.nsIn K mainGlobals "_law_what" = some (some (.ref f9))) (l9 : K.lookup f9 = some ⟨oc9, od9, .func (PySem.W.fnOf "_law_what" "_law_what" (defArgs sWhat) (defBody sWhat) (defScope sWhat) .none kV9 dc9 pm9 an9 cd9 ct9), sl9⟩)
    (c9 : PySem.W.codeIn K cd9 "_law_what" = true) (k9 : PySem.W.keepIn K (.ref f9) = true)
    (a10 : PySem.W.nsIn K mainGlobals "_law_world" = some (some (.ref f10))) (l10 : K.lookup f10 = some ⟨oc10, od10, .func (PySem.W.fnOf "_law_world" "_law_world" (defArgs sWorld) (defBody sWorld) (defScope sWorld) .none kV10 dc10 pm10 an10 cd10 ct10), sl10⟩)
    (c10 : PySem.W.codeIn K cd10 "_law_world" = true) (k10 : PySem.W.keepIn K (.ref f10) = true)
    (a11 : PySem.W.nsIn K mainGlobals "_law_most" = some (some (.ref f11))) (l11 : K.lookup f11 = some ⟨oc11, od11, .func (PySem.W.fnOf "_law_most" "_law_most" (defArgs sMost) (defBody sMost) (defScope sMost) .none kV11 dc11 pm11 an11 cd11 ct11), sl11⟩)
    (c11 : PySem.W.codeIn K cd11 "_law_most" = true) (k11 : PySem.W.keepIn K (.ref f11) = true)
    (a12 : PySem.W.nsIn K mainGlobals "_law_kind" = some (some (.ref f12))) (l12 : K.lookup f12 = some ⟨oc12, od12, .func (PySem.W.fnOf "_law_kind" "_law_kind" (defArgs sKind) (defBody sKind) (defScope sKind) .none kV12 dc12 pm12 an12 cd12 ct12), sl12⟩)
    (c12 : PySem.W.codeIn K cd12 "_law_kind" = true) (k12 : PySem.W.keepIn K (.ref f12) = true)
    (a13 : PySem.W.nsIn K mainGlobals "_law_alike" = some (some (.ref f13))) (l13 : K.lookup f13 = some ⟨oc13, od13, .func (PySem.W.fnOf "_law_alike" "_law_alike" (defArgs sAlike) (defBody sAlike) (defScope sAlike) .none kV13 dc13 pm13 an13 cd13 ct13), sl13⟩)
    (c13 : PySem.W.codeIn K cd13 "_law_alike" = true) (k13 : PySem.W.keepIn K (.ref f13) = true)
    (a14 : PySem.W.nsIn K mainGlobals "_law_bent" = some (some (.ref f14))) (l14 : K.lookup f14 = some ⟨oc14, od14, .func (PySem.W.fnOf "_law_bent" "_law_bent" (defArgs sBent) (defBody sBent) (defScope sBent) .none kV14 dc14 pm14 an14 cd14 ct14), sl14⟩)
    (c14 : PySem.W.codeIn K cd14 "_law_bent" = true) (k14 : PySem.W.keepIn K (.ref f14) = true)
    (a15 : PySem.W.nsIn K mainGlobals "_law_is_good" = some (some (.ref f15))) (l15 : K.lookup f15 = some ⟨oc15, od15, .func (PySem.W.fnOf "_law_is_good" "_law_is_good" (defArgs sIsGood) (defBody sIsGood) (defScope sIsGood) .none kV15 dc15 pm15 an15 cd15 ct15), sl15⟩)
    (c15 : PySem.W.codeIn K cd15 "_law_is_good" = true) (k15 : PySem.W.keepIn K (.ref f15) = true)
    (a16 : PySem.W.nsIn K mainGlobals "_law_looked" = some (some (.ref f16))) (l16 : K.lookup f16 = some ⟨oc16, od16, .func (PySem.W.fnOf "_law_looked" "_law_looked" (defArgs sLooked) (defBody sLooked) (defScope sLooked) .none kV16 dc16 pm16 an16 cd16 ct16), sl16⟩)
    (c16 : PySem.W.codeIn K cd16 "_law_looked" = true) (k16 : PySem.W.keepIn K (.ref f16) = true)
    (a17 : PySem.W.nsIn K mainGlobals "_law_errors_right" = some (some (.ref f17))) (l17 : K.lookup f17 = some ⟨oc17, od17, .func (PySem.W.fnOf "_law_errors_right" "_law_errors_right" (defArgs sErrsRight) (defBody sErrsRight) (defScope sErrsRight) .none kV17 dc17 pm17 an17 cd17 ct17), sl17⟩)
    (c17 : PySem.W.codeIn K cd17 "_law_errors_right" = true) (k17 : PySem.W.keepIn K (.ref f17) = true)
    (a18 : PySem.W.nsIn K mainGlobals "law" = some (some (.ref f18))) (l18 : K.lookup f18 = some ⟨oc18, od18, .func (PySem.W.fnOf "law" "law" (defArgs sLaw) (defBody sLaw) (defScope sLaw) .none kV18 dc18 pm18 an18 cd18 ct18), sl18⟩)
    (c18 : PySem.W.codeIn K cd18 "law" = true) (k18 : PySem.W.keepIn K (.ref f18) = true)
    (z1 : PySem.W.nsIn K mainGlobals "len" = some none)
    (z2 : PySem.W.nsIn K mainGlobals "range" = some none)
    (z3 : PySem.W.nsIn K mainGlobals "isinstance" = some none)
    (z4 : PySem.W.nsIn K mainGlobals "bool" = some none)
    (z5 : PySem.W.nsIn K mainGlobals "int" = some none)
    (z6 : PySem.W.nsIn K mainGlobals "str" = some none)
    (z7 : PySem.W.nsIn K mainGlobals "list" = some none)
    (z8 : PySem.W.nsIn K mainGlobals "tuple" = some none)
    (z9 : PySem.W.nsIn K mainGlobals "sum" = some none)
    (z10 : PySem.W.nsIn K mainGlobals "sorted" = some none)
    (z11 : PySem.W.nsIn K mainGlobals "set" = some none)
    (z12 : PySem.W.nsIn K mainGlobals "max" = some none)
    (z13 : PySem.W.nsIn K mainGlobals "zip" = some none)
    (z14 : PySem.W.nsIn K mainGlobals "min" = some none)
    (z15 : PySem.W.nsIn K mainGlobals "ValueError" = some none)
    (z16 : PySem.W.nsIn K mainGlobals "super" = some none)
    {R : Addr} {C0 fI0 cc0 cda0 N_0 : Addr} {oc__0 kV__0 dc__0 pm__0 ct__0 cl_0 ccl_0 : Value} {od__0 an__0 cld_0 ccd_0 dd_0 : Option Addr} {osl_0 csl_0 ccs_0 : Array (Option Value)} {cvs_0 : Array Value} {file_0 nm_0 q_0 : Str} {tf_0 : Tok} {bs_0 bm_0 sub_0 : List Value} {sn_0 : List Str} {ab_0 : Bool} {col_0 : Option Bool} {e0_0 e1_0 e2_0 e3_0 e5_0 : Option Value}
    {C1 fI1 cc1 cda1 N_1 : Addr} {oc__1 kV__1 dc__1 pm__1 ct__1 cl_1 ccl_1 : Value} {od__1 an__1 cld_1 ccd_1 dd_1 : Option Addr} {osl_1 csl_1 ccs_1 : Array (Option Value)} {cvs_1 : Array Value} {file_1 nm_1 q_1 : Str} {tf_1 : Tok} {bs_1 bm_1 sub_1 : List Value} {sn_1 : List Str} {ab_1 : Bool} {col_1 : Option Bool} {e0_1 e1_1 e2_1 e3_1 e5_1 : Option Value}
    {C2 fI2 cc2 cda2 N_2 : Addr} {oc__2 kV__2 dc__2 pm__2 ct__2 cl_2 ccl_2 : Value} {od__2 an__2 cld_2 ccd_2 dd_2 : Option Addr} {osl_2 csl_2 ccs_2 : Array (Option Value)} {cvs_2 : Array Value} {file_2 nm_2 q_2 : Str} {tf_2 : Tok} {bs_2 bm_2 sub_2 : List Value} {sn_2 : List Str} {ab_2 : Bool} {col_2 : Option Bool} {e0_2 e1_2 e2_2 e3_2 e5_2 : Option Value}
    {C3 fI3 cc3 cda3 N_3 : Addr} {oc__3 kV__3 dc__3 pm__3 ct__3 cl_3 ccl_3 : Value} {od__3 an__3 cld_3 ccd_3 dd_3 : Option Addr} {osl_3 csl_3 ccs_3 : Array (Option Value)} {cvs_3 : Array Value} {file_3 nm_3 q_3 : Str} {tf_3 : Tok} {bs_3 bm_3 sub_3 : List Value} {sn_3 : List Str} {ab_3 : Bool} {col_3 : Option Bool} {e0_3 e1_3 e2_3 e3_3 e5_3 : Option Value}
    {C4 fI4 cc4 cda4 N_4 : Addr} {oc__4 kV__4 dc__4 pm__4 ct__4 cl_4 ccl_4 : Value} {od__4 an__4 cld_4 ccd_4 dd_4 : Option Addr} {osl_4 csl_4 ccs_4 : Array (Option Value)} {cvs_4 : Array Value} {file_4 nm_4 q_4 : Str} {tf_4 : Tok} {bs_4 bm_4 sub_4 : List Value} {sn_4 : List Str} {ab_4 : Bool} {col_4 : Option Bool} {e0_4 e1_4 e2_4 e3_4 e5_4 : Option Value}
    {C5 fI5 cc5 cda5 N_5 : Addr} {oc__5 kV__5 dc__5 pm__5 ct__5 cl_5 ccl_5 : Value} {od__5 an__5 cld_5 ccd_5 dd_5 : Option Addr} {osl_5 csl_5 ccs_5 : Array (Option Value)} {cvs_5 : Array Value} {file_5 nm_5 q_5 : Str} {tf_5 : Tok} {bs_5 bm_5 sub_5 : List Value} {sn_5 : List Str} {ab_5 : Bool} {col_5 : Option Bool} {e0_5 e1_5 e2_5 e3_5 e5_5 : Option Value}
    {C6 fI6 cc6 cda6 N_6 : Addr} {oc__6 kV__6 dc__6 pm__6 ct__6 cl_6 ccl_6 : Value} {od__6 an__6 cld_6 ccd_6 dd_6 : Option Addr} {osl_6 csl_6 ccs_6 : Array (Option Value)} {cvs_6 : Array Value} {file_6 nm_6 q_6 : Str} {tf_6 : Tok} {bs_6 bm_6 sub_6 : List Value} {sn_6 : List Str} {ab_6 : Bool} {col_6 : Option Bool} {e0_6 e1_6 e2_6 e3_6 e5_6 : Option Value}
    {C7 fI7 cc7 cda7 N_7 : Addr} {oc__7 kV__7 dc__7 pm__7 ct__7 cl_7 ccl_7 : Value} {od__7 an__7 cld_7 ccd_7 dd_7 : Option Addr} {osl_7 csl_7 ccs_7 : Array (Option Value)} {cvs_7 : Array Value} {file_7 nm_7 q_7 : Str} {tf_7 : Tok} {bs_7 bm_7 sub_7 : List Value} {sn_7 : List Str} {ab_7 : Bool} {col_7 : Option Bool} {e0_7 e1_7 e2_7 e3_7 e5_7 : Option Value}
    
    (aC0 : PySem.W.nsIn K mainGlobals "NoDeed" = some (some (.ref C0)))
    (iC0 : PySem.W.findIn K (.ref C0) "__init__" = some (some (.ref fI0)))
    (lI0 : K.lookup fI0 = some ⟨oc__0, od__0, .func (PySem.W.fnX "__init__" "NoDeed.__init__" (defArgs sI0) (defBody sI0) (defScope sI0) [("__class__", cc0)] .none kV__0 dc__0 pm__0 an__0 (.ref cda0) ct__0), osl_0⟩)
    (oC0 : PySem.W.codeIn K (.ref cda0) "NoDeed.__init__" = true)
    (tI0 : PySem.W.typeIn K (.ref fI0) = some (.type "function"))
    (jC0 : K.lookup cc0 = some ⟨cl_0, cld_0, .cell (some (.ref C0)), csl_0⟩)
    (xC0 : K.lookup C0 = some (excClassObj nm_0 q_0 C0 N_0 bs_0 bm_0 true sn_0 sub_0 ab_0 col_0 dd_0 e0_0 e1_0 e2_0 e3_0 e5_0 "ValueError.__new__"))
    (bC0 : PySem.HandSPX.refsVE bm_0 = true)
    (sC0 : PySem.W.findIn K (.ref C0) "__setattr__" = some (some (.builtin "object.__setattr__")))
    (eC0 : PySem.W.subIn K (.ref C0) (.type "BaseException") = some true)
    (yC0 : PySem.W.typeIn K (.ref C0) = some (.type "type"))
    (kC0 : PySem.W.keepIn K (.ref C0) = true)
    (uC0 : PySem.W.ks_superIn K C0 C0 "__init__" = some (some (.builtin "ValueError.__init__")))
    (rC0 : PySem.W.mroIn K C0 (.ref C0) = some true)
    (vC0 : PySem.W.subIn K (.ref C0) (.type "ValueError") = some true)
    (dC0 : K.lookup cda0 = some ⟨ccl_0, ccd_0, .fields cvs_0, ccs_0⟩)
    (fC0 : cvs_0[2]? = some (.str file_0 tf_0))
    (gC0 : ((l.prog.main.file : Str) == file_0) = true)
    (nC0 : PySem.W.findIn K (.ref C0) "what" = some none)
    (gaC0 : PySem.W.findIn K (.ref C0) "__getattribute__" = some (some (.builtin "BaseException.__getattribute__")))
    (ggC0 : PySem.W.findIn K (.ref C0) "__getattr__" = some none)
    (hC0 : PySem.W.hasDictIn K C0 = true)
    (aC1 : PySem.W.nsIn K mainGlobals "NoKind" = some (some (.ref C1)))
    (iC1 : PySem.W.findIn K (.ref C1) "__init__" = some (some (.ref fI1)))
    (lI1 : K.lookup fI1 = some ⟨oc__1, od__1, .func (PySem.W.fnX "__init__" "NoKind.__init__" (defArgs sI1) (defBody sI1) (defScope sI1) [("__class__", cc1)] .none kV__1 dc__1 pm__1 an__1 (.ref cda1) ct__1), osl_1⟩)
    (oC1 : PySem.W.codeIn K (.ref cda1) "NoKind.__init__" = true)
    (tI1 : PySem.W.typeIn K (.ref fI1) = some (.type "function"))
    (jC1 : K.lookup cc1 = some ⟨cl_1, cld_1, .cell (some (.ref C1)), csl_1⟩)
    (xC1 : K.lookup C1 = some (excClassObj nm_1 q_1 C1 N_1 bs_1 bm_1 true sn_1 sub_1 ab_1 col_1 dd_1 e0_1 e1_1 e2_1 e3_1 e5_1 "ValueError.__new__"))
    (bC1 : PySem.HandSPX.refsVE bm_1 = true)
    (sC1 : PySem.W.findIn K (.ref C1) "__setattr__" = some (some (.builtin "object.__setattr__")))
    (eC1 : PySem.W.subIn K (.ref C1) (.type "BaseException") = some true)
    (yC1 : PySem.W.typeIn K (.ref C1) = some (.type "type"))
    (kC1 : PySem.W.keepIn K (.ref C1) = true)
    (uC1 : PySem.W.ks_superIn K C1 C1 "__init__" = some (some (.builtin "ValueError.__init__")))
    (rC1 : PySem.W.mroIn K C1 (.ref C1) = some true)
    (vC1 : PySem.W.subIn K (.ref C1) (.type "ValueError") = some true)
    (dC1 : K.lookup cda1 = some ⟨ccl_1, ccd_1, .fields cvs_1, ccs_1⟩)
    (fC1 : cvs_1[2]? = some (.str file_1 tf_1))
    (gC1 : ((l.prog.main.file : Str) == file_1) = true)
    (nC1 : PySem.W.findIn K (.ref C1) "what" = some none)
    (gaC1 : PySem.W.findIn K (.ref C1) "__getattribute__" = some (some (.builtin "BaseException.__getattribute__")))
    (ggC1 : PySem.W.findIn K (.ref C1) "__getattr__" = some none)
    (hC1 : PySem.W.hasDictIn K C1 = true)
    (aC2 : PySem.W.nsIn K mainGlobals "NoMark" = some (some (.ref C2)))
    (iC2 : PySem.W.findIn K (.ref C2) "__init__" = some (some (.ref fI2)))
    (lI2 : K.lookup fI2 = some ⟨oc__2, od__2, .func (PySem.W.fnX "__init__" "NoMark.__init__" (defArgs sI2) (defBody sI2) (defScope sI2) [("__class__", cc2)] .none kV__2 dc__2 pm__2 an__2 (.ref cda2) ct__2), osl_2⟩)
    (oC2 : PySem.W.codeIn K (.ref cda2) "NoMark.__init__" = true)
    (tI2 : PySem.W.typeIn K (.ref fI2) = some (.type "function"))
    (jC2 : K.lookup cc2 = some ⟨cl_2, cld_2, .cell (some (.ref C2)), csl_2⟩)
    (xC2 : K.lookup C2 = some (excClassObj nm_2 q_2 C2 N_2 bs_2 bm_2 true sn_2 sub_2 ab_2 col_2 dd_2 e0_2 e1_2 e2_2 e3_2 e5_2 "ValueError.__new__"))
    (bC2 : PySem.HandSPX.refsVE bm_2 = true)
    (sC2 : PySem.W.findIn K (.ref C2) "__setattr__" = some (some (.builtin "object.__setattr__")))
    (eC2 : PySem.W.subIn K (.ref C2) (.type "BaseException") = some true)
    (yC2 : PySem.W.typeIn K (.ref C2) = some (.type "type"))
    (kC2 : PySem.W.keepIn K (.ref C2) = true)
    (uC2 : PySem.W.ks_superIn K C2 C2 "__init__" = some (some (.builtin "ValueError.__init__")))
    (rC2 : PySem.W.mroIn K C2 (.ref C2) = some true)
    (vC2 : PySem.W.subIn K (.ref C2) (.type "ValueError") = some true)
    (dC2 : K.lookup cda2 = some ⟨ccl_2, ccd_2, .fields cvs_2, ccs_2⟩)
    (fC2 : cvs_2[2]? = some (.str file_2 tf_2))
    (gC2 : ((l.prog.main.file : Str) == file_2) = true)
    (nC2 : PySem.W.findIn K (.ref C2) "what" = some none)
    (gaC2 : PySem.W.findIn K (.ref C2) "__getattribute__" = some (some (.builtin "BaseException.__getattribute__")))
    (ggC2 : PySem.W.findIn K (.ref C2) "__getattr__" = some none)
    (hC2 : PySem.W.hasDictIn K C2 = true)
    (aC3 : PySem.W.nsIn K mainGlobals "NoMember" = some (some (.ref C3)))
    (iC3 : PySem.W.findIn K (.ref C3) "__init__" = some (some (.ref fI3)))
    (lI3 : K.lookup fI3 = some ⟨oc__3, od__3, .func (PySem.W.fnX "__init__" "NoMember.__init__" (defArgs sI3) (defBody sI3) (defScope sI3) [("__class__", cc3)] .none kV__3 dc__3 pm__3 an__3 (.ref cda3) ct__3), osl_3⟩)
    (oC3 : PySem.W.codeIn K (.ref cda3) "NoMember.__init__" = true)
    (tI3 : PySem.W.typeIn K (.ref fI3) = some (.type "function"))
    (jC3 : K.lookup cc3 = some ⟨cl_3, cld_3, .cell (some (.ref C3)), csl_3⟩)
    (xC3 : K.lookup C3 = some (excClassObj nm_3 q_3 C3 N_3 bs_3 bm_3 true sn_3 sub_3 ab_3 col_3 dd_3 e0_3 e1_3 e2_3 e3_3 e5_3 "ValueError.__new__"))
    (bC3 : PySem.HandSPX.refsVE bm_3 = true)
    (sC3 : PySem.W.findIn K (.ref C3) "__setattr__" = some (some (.builtin "object.__setattr__")))
    (eC3 : PySem.W.subIn K (.ref C3) (.type "BaseException") = some true)
    (yC3 : PySem.W.typeIn K (.ref C3) = some (.type "type"))
    (kC3 : PySem.W.keepIn K (.ref C3) = true)
    (uC3 : PySem.W.ks_superIn K C3 C3 "__init__" = some (some (.builtin "ValueError.__init__")))
    (rC3 : PySem.W.mroIn K C3 (.ref C3) = some true)
    (vC3 : PySem.W.subIn K (.ref C3) (.type "ValueError") = some true)
    (dC3 : K.lookup cda3 = some ⟨ccl_3, ccd_3, .fields cvs_3, ccs_3⟩)
    (fC3 : cvs_3[2]? = some (.str file_3 tf_3))
    (gC3 : ((l.prog.main.file : Str) == file_3) = true)
    (nC3 : PySem.W.findIn K (.ref C3) "what" = some none)
    (gaC3 : PySem.W.findIn K (.ref C3) "__getattribute__" = some (some (.builtin "BaseException.__getattribute__")))
    (ggC3 : PySem.W.findIn K (.ref C3) "__getattr__" = some none)
    (hC3 : PySem.W.hasDictIn K C3 = true)
    (aC4 : PySem.W.nsIn K mainGlobals "NoMembers" = some (some (.ref C4)))
    (iC4 : PySem.W.findIn K (.ref C4) "__init__" = some (some (.ref fI4)))
    (lI4 : K.lookup fI4 = some ⟨oc__4, od__4, .func (PySem.W.fnX "__init__" "NoMembers.__init__" (defArgs sI4) (defBody sI4) (defScope sI4) [("__class__", cc4)] .none kV__4 dc__4 pm__4 an__4 (.ref cda4) ct__4), osl_4⟩)
    (oC4 : PySem.W.codeIn K (.ref cda4) "NoMembers.__init__" = true)
    (tI4 : PySem.W.typeIn K (.ref fI4) = some (.type "function"))
    (jC4 : K.lookup cc4 = some ⟨cl_4, cld_4, .cell (some (.ref C4)), csl_4⟩)
    (xC4 : K.lookup C4 = some (excClassObj nm_4 q_4 C4 N_4 bs_4 bm_4 true sn_4 sub_4 ab_4 col_4 dd_4 e0_4 e1_4 e2_4 e3_4 e5_4 "ValueError.__new__"))
    (bC4 : PySem.HandSPX.refsVE bm_4 = true)
    (sC4 : PySem.W.findIn K (.ref C4) "__setattr__" = some (some (.builtin "object.__setattr__")))
    (eC4 : PySem.W.subIn K (.ref C4) (.type "BaseException") = some true)
    (yC4 : PySem.W.typeIn K (.ref C4) = some (.type "type"))
    (kC4 : PySem.W.keepIn K (.ref C4) = true)
    (uC4 : PySem.W.ks_superIn K C4 C4 "__init__" = some (some (.builtin "ValueError.__init__")))
    (rC4 : PySem.W.mroIn K C4 (.ref C4) = some true)
    (vC4 : PySem.W.subIn K (.ref C4) (.type "ValueError") = some true)
    (dC4 : K.lookup cda4 = some ⟨ccl_4, ccd_4, .fields cvs_4, ccs_4⟩)
    (fC4 : cvs_4[2]? = some (.str file_4 tf_4))
    (gC4 : ((l.prog.main.file : Str) == file_4) = true)
    (nC4 : PySem.W.findIn K (.ref C4) "what" = some none)
    (gaC4 : PySem.W.findIn K (.ref C4) "__getattribute__" = some (some (.builtin "BaseException.__getattribute__")))
    (ggC4 : PySem.W.findIn K (.ref C4) "__getattr__" = some none)
    (hC4 : PySem.W.hasDictIn K C4 = true)
    (aC5 : PySem.W.nsIn K mainGlobals "NoText" = some (some (.ref C5)))
    (iC5 : PySem.W.findIn K (.ref C5) "__init__" = some (some (.ref fI5)))
    (lI5 : K.lookup fI5 = some ⟨oc__5, od__5, .func (PySem.W.fnX "__init__" "NoText.__init__" (defArgs sI5) (defBody sI5) (defScope sI5) [("__class__", cc5)] .none kV__5 dc__5 pm__5 an__5 (.ref cda5) ct__5), osl_5⟩)
    (oC5 : PySem.W.codeIn K (.ref cda5) "NoText.__init__" = true)
    (tI5 : PySem.W.typeIn K (.ref fI5) = some (.type "function"))
    (jC5 : K.lookup cc5 = some ⟨cl_5, cld_5, .cell (some (.ref C5)), csl_5⟩)
    (xC5 : K.lookup C5 = some (excClassObj nm_5 q_5 C5 N_5 bs_5 bm_5 true sn_5 sub_5 ab_5 col_5 dd_5 e0_5 e1_5 e2_5 e3_5 e5_5 "ValueError.__new__"))
    (bC5 : PySem.HandSPX.refsVE bm_5 = true)
    (sC5 : PySem.W.findIn K (.ref C5) "__setattr__" = some (some (.builtin "object.__setattr__")))
    (eC5 : PySem.W.subIn K (.ref C5) (.type "BaseException") = some true)
    (yC5 : PySem.W.typeIn K (.ref C5) = some (.type "type"))
    (kC5 : PySem.W.keepIn K (.ref C5) = true)
    (uC5 : PySem.W.ks_superIn K C5 C5 "__init__" = some (some (.builtin "ValueError.__init__")))
    (rC5 : PySem.W.mroIn K C5 (.ref C5) = some true)
    (vC5 : PySem.W.subIn K (.ref C5) (.type "ValueError") = some true)
    (dC5 : K.lookup cda5 = some ⟨ccl_5, ccd_5, .fields cvs_5, ccs_5⟩)
    (fC5 : cvs_5[2]? = some (.str file_5 tf_5))
    (gC5 : ((l.prog.main.file : Str) == file_5) = true)
    (nC5 : PySem.W.findIn K (.ref C5) "what" = some none)
    (gaC5 : PySem.W.findIn K (.ref C5) "__getattribute__" = some (some (.builtin "BaseException.__getattribute__")))
    (ggC5 : PySem.W.findIn K (.ref C5) "__getattr__" = some none)
    (hC5 : PySem.W.hasDictIn K C5 = true)
    (aC6 : PySem.W.nsIn K mainGlobals "NoUse" = some (some (.ref C6)))
    (iC6 : PySem.W.findIn K (.ref C6) "__init__" = some (some (.ref fI6)))
    (lI6 : K.lookup fI6 = some ⟨oc__6, od__6, .func (PySem.W.fnX "__init__" "NoUse.__init__" (defArgs sI6) (defBody sI6) (defScope sI6) [("__class__", cc6)] .none kV__6 dc__6 pm__6 an__6 (.ref cda6) ct__6), osl_6⟩)
    (oC6 : PySem.W.codeIn K (.ref cda6) "NoUse.__init__" = true)
    (tI6 : PySem.W.typeIn K (.ref fI6) = some (.type "function"))
    (jC6 : K.lookup cc6 = some ⟨cl_6, cld_6, .cell (some (.ref C6)), csl_6⟩)
    (xC6 : K.lookup C6 = some (excClassObj nm_6 q_6 C6 N_6 bs_6 bm_6 true sn_6 sub_6 ab_6 col_6 dd_6 e0_6 e1_6 e2_6 e3_6 e5_6 "ValueError.__new__"))
    (bC6 : PySem.HandSPX.refsVE bm_6 = true)
    (sC6 : PySem.W.findIn K (.ref C6) "__setattr__" = some (some (.builtin "object.__setattr__")))
    (eC6 : PySem.W.subIn K (.ref C6) (.type "BaseException") = some true)
    (yC6 : PySem.W.typeIn K (.ref C6) = some (.type "type"))
    (kC6 : PySem.W.keepIn K (.ref C6) = true)
    (uC6 : PySem.W.ks_superIn K C6 C6 "__init__" = some (some (.builtin "ValueError.__init__")))
    (rC6 : PySem.W.mroIn K C6 (.ref C6) = some true)
    (vC6 : PySem.W.subIn K (.ref C6) (.type "ValueError") = some true)
    (dC6 : K.lookup cda6 = some ⟨ccl_6, ccd_6, .fields cvs_6, ccs_6⟩)
    (fC6 : cvs_6[2]? = some (.str file_6 tf_6))
    (gC6 : ((l.prog.main.file : Str) == file_6) = true)
    (nC6 : PySem.W.findIn K (.ref C6) "what" = some none)
    (gaC6 : PySem.W.findIn K (.ref C6) "__getattribute__" = some (some (.builtin "BaseException.__getattribute__")))
    (ggC6 : PySem.W.findIn K (.ref C6) "__getattr__" = some none)
    (hC6 : PySem.W.hasDictIn K C6 = true)
    (aC7 : PySem.W.nsIn K mainGlobals "TwoFaced" = some (some (.ref C7)))
    (iC7 : PySem.W.findIn K (.ref C7) "__init__" = some (some (.ref fI7)))
    (lI7 : K.lookup fI7 = some ⟨oc__7, od__7, .func (PySem.W.fnX "__init__" "TwoFaced.__init__" (defArgs sI7) (defBody sI7) (defScope sI7) [("__class__", cc7)] .none kV__7 dc__7 pm__7 an__7 (.ref cda7) ct__7), osl_7⟩)
    (oC7 : PySem.W.codeIn K (.ref cda7) "TwoFaced.__init__" = true)
    (tI7 : PySem.W.typeIn K (.ref fI7) = some (.type "function"))
    (jC7 : K.lookup cc7 = some ⟨cl_7, cld_7, .cell (some (.ref C7)), csl_7⟩)
    (xC7 : K.lookup C7 = some (excClassObj nm_7 q_7 C7 N_7 bs_7 bm_7 true sn_7 sub_7 ab_7 col_7 dd_7 e0_7 e1_7 e2_7 e3_7 e5_7 "ValueError.__new__"))
    (bC7 : PySem.HandSPX.refsVE bm_7 = true)
    (sC7 : PySem.W.findIn K (.ref C7) "__setattr__" = some (some (.builtin "object.__setattr__")))
    (eC7 : PySem.W.subIn K (.ref C7) (.type "BaseException") = some true)
    (yC7 : PySem.W.typeIn K (.ref C7) = some (.type "type"))
    (kC7 : PySem.W.keepIn K (.ref C7) = true)
    (uC7 : PySem.W.ks_superIn K C7 C7 "__init__" = some (some (.builtin "ValueError.__init__")))
    (rC7 : PySem.W.mroIn K C7 (.ref C7) = some true)
    (vC7 : PySem.W.subIn K (.ref C7) (.type "ValueError") = some true)
    (dC7 : K.lookup cda7 = some ⟨ccl_7, ccd_7, .fields cvs_7, ccs_7⟩)
    (fC7 : cvs_7[2]? = some (.str file_7 tf_7))
    (gC7 : ((l.prog.main.file : Str) == file_7) = true)
    (nC7 : PySem.W.findIn K (.ref C7) "what" = some none)
    (gaC7 : PySem.W.findIn K (.ref C7) "__getattribute__" = some (some (.builtin "BaseException.__getattribute__")))
    (ggC7 : PySem.W.findIn K (.ref C7) "__getattr__" = some none)
    (hC7 : PySem.W.hasDictIn K C7 = true)
    (uO : PySem.W.nsIn K cStatics "thirdparty.any" = some none)
    (uT : (l.prog.main.scope.names.lookup ("super" : Str)).isSome = false)
    (zC : PySem.W.findIn K (.ref C0) "__class__" = some (some (.builtin "object.__class__")))
    (zn : PySem.W.specialIn K (.builtin "object.__class__") "__get__" = some (some (.builtin "getset_descriptor.__get__")))
    (zt : PySem.W.takesIn K (.builtin "object.__class__") = some true)
    (zm : PySem.W.mroIn K C0 (.type "object") = some true)
    (z0_ : PySem.W.kitOne K (.ref C0) (.ref C0) = some true)
    (z1_ : PySem.W.kitOne K (.ref C0) (.ref C1) = some false)
    (z2_ : PySem.W.kitOne K (.ref C0) (.ref C2) = some false)
    (z3_ : PySem.W.kitOne K (.ref C0) (.ref C3) = some false)
    (z4_ : PySem.W.kitOne K (.ref C0) (.ref C4) = some false)
    (z5_ : PySem.W.kitOne K (.ref C0) (.ref C5) = some false)
    (z6_ : PySem.W.kitOne K (.ref C0) (.ref C6) = some false)
    (z7_ : PySem.W.kitOne K (.ref C0) (.ref C7) = some false)
    (zv : PySem.W.kitOne K (.ref C0) (.type "ValueError") = some true)
    (aR : PySem.W.nsIn K mainGlobals "RollError" = some (some (.ref R)))
    (rB : PySem.W.subIn K (.ref R) (.type "BaseException") = some true)
    (rD : PySem.W.hasDictIn K R = true)
    (rT : PySem.W.typeIn K (.ref R) = some (.type "type"))
    (rS : PySem.W.subIn K (.ref C0) (.ref R) = some true)
    : ∃ fd : FuncData, (∀ (s : Shared) (v : Value), BindsTo s fd ⟨[v], []⟩ [("script", v)]) ∧ ∀ base : Heap, K.In base → base.Ns mainGlobals mg → FnOk l.prog w K mg base CX0 7 fa fd ["script"] (spLaw K) := by
  have e := hfa.symm.trans (PySem.W.mg_of X G a18)
  cases e
  have F1 := fun_mk (st := sLook) l1 c1 k1
  have m1 := PySem.W.mg_of X G a1
  have b1 := F1.binds (ps := ["members", "deed"]) fun _ _ _ _ _ _ us hl => match us, hl with | [_, _], _ => rfl
  have F2 := fun_mk (st := sMark) l2 c2 k2
  have m2 := PySem.W.mg_of X G a2
  have b2 := F2.binds (ps := ["deed"]) fun _ _ _ _ _ _ us hl => match us, hl with | [_], _ => rfl
  have F3 := fun_mk (st := sHasMark) l3 c3 k3
  have m3 := PySem.W.mg_of X G a3
  have b3 := F3.binds (ps := ["members", "deed"]) fun _ _ _ _ _ _ us hl => match us, hl with | [_, _], _ => rfl
  have F4 := fun_mk (st := sHasNote) l4 c4 k4
  have m4 := PySem.W.mg_of X G a4
  have b4 := F4.binds (ps := ["members", "deed"]) fun _ _ _ _ _ _ us hl => match us, hl with | [_, _], _ => rfl
  have F5 := fun_mk (st := sDown) l5 c5 k5
  have m5 := PySem.W.mg_of X G a5
  have b5 := F5.binds (ps := ["members", "deed"]) fun _ _ _ _ _ _ us hl => match us, hl with | [_, _], _ => rfl
  have F6 := fun_mk (st := sTray) l6 c6 k6
  have m6 := PySem.W.mg_of X G a6
  have b6 := F6.binds (ps := ["script"]) fun _ _ _ _ _ _ us hl => match us, hl with | [_], _ => rfl
  have F7 := fun_mk (st := sDraw) l7 c7 k7
  have m7 := PySem.W.mg_of X G a7
  have b7 := F7.binds (ps := ["tray", "many"]) fun _ _ _ _ _ _ us hl => match us, hl with | [_, _], _ => rfl
  have F8 := fun_mk (st := sWord) l8 c8 k8
  have m8 := PySem.W.mg_of X G a8
  have b8 := F8.binds (ps := ["tray"]) fun _ _ _ _ _ _ us hl => match us, hl with | [_], _ => rfl
  have F9 := fun_mk (st := sWhat) l9 c9 k9
  have m9 := PySem.W.mg_of X G a9
  have b9 := F9.binds (ps := ["tray", "who", "many", "mights"]) fun _ _ _ _ _ _ us hl => match us, hl with | [_, _, _, _], _ => rfl
  have F10 := fun_mk (st := sWorld) l10 c10 k10
  have m10 := PySem.W.mg_of X G a10
  have b10 := F10.binds (ps := ["tray", "most"]) fun _ _ _ _ _ _ us hl => match us, hl with | [_, _], _ => rfl
  have F11 := fun_mk (st := sMost) l11 c11 k11
  have m11 := PySem.W.mg_of X G a11
  have b11 := F11.binds (ps := ["tray"]) fun _ _ _ _ _ _ us hl => match us, hl with | [_], _ => rfl
  have F12 := fun_mk (st := sKind) l12 c12 k12
  have m12 := PySem.W.mg_of X G a12
  have b12 := F12.binds (ps := ["e"]) fun _ _ _ _ _ _ us hl => match us, hl with | [_], _ => rfl
  have F13 := fun_mk (st := sAlike) l13 c13 k13
  have m13 := PySem.W.mg_of X G a13
  have b13 := F13.binds (ps := ["found", "due"]) fun _ _ _ _ _ _ us hl => match us, hl with | [_, _], _ => rfl
  have F14 := fun_mk (st := sBent) l14 c14 k14
  have m14 := PySem.W.mg_of X G a14
  have b14 := F14.binds (ps := ["tray", "many", "act"]) fun _ _ _ _ _ _ us hl => match us, hl with | [_, _, _], _ => rfl
  have F15 := fun_mk (st := sIsGood) l15 c15 k15
  have m15 := PySem.W.mg_of X G a15
  have b15 := F15.binds (ps := ["many", "act"]) fun _ _ _ _ _ _ us hl => match us, hl with | [_, _], _ => rfl
  have F16 := fun_mk (st := sLooked) l16 c16 k16
  have m16 := PySem.W.mg_of X G a16
  have b16 := F16.binds (ps := ["turn", "many", "act"]) fun _ _ _ _ _ _ us hl => match us, hl with | [_, _, _], _ => rfl
  have F17 := fun_mk (st := sErrsRight) l17 c17 k17
  have m17 := PySem.W.mg_of X G a17
  have b17 := F17.binds (ps := ["number"]) fun _ _ _ _ _ _ us hl => match us, hl with | [_], _ => rfl
  have F18 := fun_mk (st := sLaw) l18 c18 k18
  have m18 := PySem.W.mg_of X G a18
  have y1 := PySem.W.mg_none_of X G z1
  have y2 := PySem.W.mg_none_of X G z2
  have y3 := PySem.W.mg_none_of X G z3
  have y4 := PySem.W.mg_none_of X G z4
  have y5 := PySem.W.mg_none_of X G z5
  have y6 := PySem.W.mg_none_of X G z6
  have y7 := PySem.W.mg_none_of X G z7
  have y8 := PySem.W.mg_none_of X G z8
  have y9 := PySem.W.mg_none_of X G z9
  have y10 := PySem.W.mg_none_of X G z10
  have y11 := PySem.W.mg_none_of X G z11
  have y12 := PySem.W.mg_none_of X G z12
  have y13 := PySem.W.mg_none_of X G z13
  have y14 := PySem.W.mg_none_of X G z14
  have y15 := PySem.W.mg_none_of X G z15
  have y16 := PySem.W.mg_none_of X G z16
  refine ⟨PySem.W.fnOf "law" "law" (defArgs sLaw) (defBody sLaw) (defScope sLaw) .none kV18 dc18 pm18 an18 cd18 ct18, fun s v => .of_eq rfl, fun base _ _ => ?_⟩
  have B : Blt mg := ⟨y1, y2, y3, y4, y5, y6, y7, y8, y9, y10, y11, y12, y13⟩
  have U : Once l.prog K mg := ⟨uO, y16, uT⟩
  have Q0 : Cf l.prog K mg "NoDeed" C0 fI0 cc0 cda0 := ⟨PySem.W.mg_of X G aC0, iC0, tI0, ⟨_, _, _, jC0⟩, ⟨⟨_, _, _, _, _, _, _, _, _, _, _, _, _, _, _, xC0, bC0⟩, sC0, eC0, yC0, kC0⟩, uC0, rC0, vC0, ⟨_, _, _, _, _, _, dC0, fC0, gC0⟩, nC0, ⟨gaC0, ggC0, eC0, hC0⟩⟩
  have E0 := err0 (P := l.prog) (w := w) (base := base) U Q0 lI0 oC0
  have Q1 : Cf l.prog K mg "NoKind" C1 fI1 cc1 cda1 := ⟨PySem.W.mg_of X G aC1, iC1, tI1, ⟨_, _, _, jC1⟩, ⟨⟨_, _, _, _, _, _, _, _, _, _, _, _, _, _, _, xC1, bC1⟩, sC1, eC1, yC1, kC1⟩, uC1, rC1, vC1, ⟨_, _, _, _, _, _, dC1, fC1, gC1⟩, nC1, ⟨gaC1, ggC1, eC1, hC1⟩⟩
  have E1 := err1 (P := l.prog) (w := w) (base := base) U Q1 lI1 oC1
  have Q2 : Cf l.prog K mg "NoMark" C2 fI2 cc2 cda2 := ⟨PySem.W.mg_of X G aC2, iC2, tI2, ⟨_, _, _, jC2⟩, ⟨⟨_, _, _, _, _, _, _, _, _, _, _, _, _, _, _, xC2, bC2⟩, sC2, eC2, yC2, kC2⟩, uC2, rC2, vC2, ⟨_, _, _, _, _, _, dC2, fC2, gC2⟩, nC2, ⟨gaC2, ggC2, eC2, hC2⟩⟩
  have E2 := err2 (P := l.prog) (w := w) (base := base) U Q2 lI2 oC2
  have Q3 : Cf l.prog K mg "NoMember" C3 fI3 cc3 cda3 := ⟨PySem.W.mg_of X G aC3, iC3, tI3, ⟨_, _, _, jC3⟩, ⟨⟨_, _, _, _, _, _, _, _, _, _, _, _, _, _, _, xC3, bC3⟩, sC3, eC3, yC3, kC3⟩, uC3, rC3, vC3, ⟨_, _, _, _, _, _, dC3, fC3, gC3⟩, nC3, ⟨gaC3, ggC3, eC3, hC3⟩⟩
  have E3 := err3 (P := l.prog) (w := w) (base := base) U Q3 lI3 oC3
  have Q4 : Cf l.prog K mg "NoMembers" C4 fI4 cc4 cda4 := ⟨PySem.W.mg_of X G aC4, iC4, tI4, ⟨_, _, _, jC4⟩, ⟨⟨_, _, _, _, _, _, _, _, _, _, _, _, _, _, _, xC4, bC4⟩, sC4, eC4, yC4, kC4⟩, uC4, rC4, vC4, ⟨_, _, _, _, _, _, dC4, fC4, gC4⟩, nC4, ⟨gaC4, ggC4, eC4, hC4⟩⟩
  have E4 := err4 (P := l.prog) (w := w) (base := base) U Q4 lI4 oC4
  have Q5 : Cf l.prog K mg "NoText" C5 fI5 cc5 cda5 := ⟨PySem.W.mg_of X G aC5, iC5, tI5, ⟨_, _, _, jC5⟩, ⟨⟨_, _, _, _, _, _, _, _, _, _, _, _, _, _, _, xC5, bC5⟩, sC5, eC5, yC5, kC5⟩, uC5, rC5, vC5, ⟨_, _, _, _, _, _, dC5, fC5, gC5⟩, nC5, ⟨gaC5, ggC5, eC5, hC5⟩⟩
  have E5 := err5 (P := l.prog) (w := w) (base := base) U Q5 lI5 oC5
  have Q6 : Cf l.prog K mg "NoUse" C6 fI6 cc6 cda6 := ⟨PySem.W.mg_of X G aC6, iC6, tI6, ⟨_, _, _, jC6⟩, ⟨⟨_, _, _, _, _, _, _, _, _, _, _, _, _, _, _, xC6, bC6⟩, sC6, eC6, yC6, kC6⟩, uC6, rC6, vC6, ⟨_, _, _, _, _, _, dC6, fC6, gC6⟩, nC6, ⟨gaC6, ggC6, eC6, hC6⟩⟩
  have E6 := err6 (P := l.prog) (w := w) (base := base) U Q6 lI6 oC6
  have Q7 : Cf l.prog K mg "TwoFaced" C7 fI7 cc7 cda7 := ⟨PySem.W.mg_of X G aC7, iC7, tI7, ⟨_, _, _, jC7⟩, ⟨⟨_, _, _, _, _, _, _, _, _, _, _, _, _, _, _, xC7, bC7⟩, sC7, eC7, yC7, kC7⟩, uC7, rC7, vC7, ⟨_, _, _, _, _, _, dC7, fC7, gC7⟩, nC7, ⟨gaC7, ggC7, eC7, hC7⟩⟩
  have E7 := err7 (P := l.prog) (w := w) (base := base) U Q7 lI7 oC7
  have EG : Eight mg (sel8 C0 C1 C2 C3 C4 C5 C6 C7) := ⟨PySem.W.mg_of X G aC0, PySem.W.mg_of X G aC1, PySem.W.mg_of X G aC2, PySem.W.mg_of X G aC3, PySem.W.mg_of X G aC4, PySem.W.mg_of X G aC5, PySem.W.mg_of X G aC6, PySem.W.mg_of X G aC7, y15⟩
  have I0 : IsOf K (sel8 C0 C1 C2 C3 C4 C5 C6 C7) C0 onlyFirst := ⟨⟨gaC0, ggC0, eC0, hC0, zC, zn, zt, zm⟩, ⟨gaC0, ggC0, eC0, hC0⟩, nC0, fun i hi => (match i, hi with | 0, _ => z0_ | 1, _ => z1_ | 2, _ => z2_ | 3, _ => z3_ | 4, _ => z4_ | 5, _ => z5_ | 6, _ => z6_ | 7, _ => z7_ | (n + 8), h => absurd h (by omega)), zv⟩
  have xR := PySem.W.exm_ref (cls := .ref C0) rB rD rT rS
  have CM1 : Cal l.prog w K mg base 1 "mark" ["deed"] spMark f2 _ := ⟨ok_mark F2, m2, k2, b2⟩
  have CM3 : Cal l.prog w K mg base 3 "mark" ["deed"] spMark f2 _ := ⟨ok_mark F2, m2, k2, b2⟩
  have H1 : Cal l.prog w K mg base 3 "_has_mark" ["members", "deed"] spHasMark f3 _ := ⟨(ok_hasMark F3 CM1).mono (by decide), m3, k3, b3⟩
  have H2 : Cal l.prog w K mg base 3 "_has_note" ["members", "deed"] spHasNote f4 _ := ⟨ok_hasNote F4 B y14, m4, k4, b4⟩
  have A3_ : Cal l.prog w K mg base 3 "_goes_down" ["members", "deed"] spDown f5 _ := ⟨ok_down F5, m5, k5, b5⟩
  have LK := ok_lookX F1 H1 H2 A3_ CM3 (j := 1) (by decide) E0.er
  have nL := kbn_of (ks := ["deed", "members"]) (ps := ["members", "deed"]) (g := swap2) (gV := swap2) F1 0 (fun _ _ _ _ _ _ us ws h1 h2 => match us, ws, h1, h2 with | [], [_, _], _, _ => rfl) swap2_rel
  have KD := ok_kind (P := l.prog) (w := w) (mg := mg) (base := base) (k := 3) F12 B EG
  have LO : Cal l.prog w K mg base 6 "_law_looked" ["turn", "many", "act"] spLooked f16 _ := ⟨(ok_looked F16 LK m1 k1 b1 nL KD (by decide) m12 k12 b12 (PySem.W.mg_of X G aR) xR I0).mono (by decide), m16, k16, b16⟩
  have A0 : Cal l.prog w K mg base 0 "_law_alike" ["found", "due"] (spAlike 0) f13 _ := ⟨alike0, m13, k13, b13⟩
  have A1 : Cal l.prog w K mg base 1 "_law_alike" ["found", "due"] (spAlike 1) f13 _ := ⟨ok_alike F13 A0 B, m13, k13, b13⟩
  have A2 : Cal l.prog w K mg base 2 "_law_alike" ["found", "due"] (spAlike 2) f13 _ := ⟨ok_alike F13 A1 B, m13, k13, b13⟩
  have A3 : Cal l.prog w K mg base 3 "_law_alike" ["found", "due"] (spAlike 3) f13 _ := ⟨ok_alike F13 A2 B, m13, k13, b13⟩
  have ER : Cal l.prog w K mg base 6 "_law_errors_right" ["number"] spErrs f17 _ := ⟨(ok_errs' F17 (k := 3) (j := 1) (by decide) E0 E1 E2 E3 E4 E5 E6 E7 A3).mono (by decide), m17, k17, b17⟩
  have CT : Cal l.prog w K mg base 6 "_law_tray" ["script"] (spTray K) f6 _ := ⟨ok_tray F6 B.max, m6, k6, b6⟩
  have D1 : DrawC l.prog w K mg base 1 f7 _ := ⟨ok_draw F7, m7, k7, b7⟩
  have D2 : DrawC l.prog w K mg base 2 f7 _ := ⟨ok_draw F7, m7, k7, b7⟩
  have D3 : DrawC l.prog w K mg base 3 f7 _ := ⟨ok_draw F7, m7, k7, b7⟩
  have D5 : DrawC l.prog w K mg base 5 f7 _ := ⟨ok_draw F7, m7, k7, b7⟩
  have W2 : Cal l.prog w K mg base 2 "_law_word" ["tray"] spWord f8 _ := ⟨ok_word F8 D1 B.range, m8, k8, b8⟩
  have T3 : Cal l.prog w K mg base 3 "_law_what" ["tray", "who", "many", "mights"] spWhat f9 _ := ⟨ok_what F9 D2 W2 B.len, m9, k9, b9⟩
  have W3 := W2.mono (show 2 ≤ 3 by decide)
  have V4 : Cal l.prog w K mg base 6 "_law_world" ["tray", "most"] spWorld f10 _ := ⟨(ok_world F10 D3 W3 T3 B.range B.max B.zip B.tuple).mono (by decide), m10, k10, b10⟩
  have Mo : Cal l.prog w K mg base 6 "_law_most" ["tray"] spMost f11 _ := ⟨ok_most F11 D5, m11, k11, b11⟩
  have BT : Cal l.prog w K mg base 6 "_law_bent" ["tray", "many", "act"] spBent f14 _ := ⟨ok_bent F14 D5 B, m14, k14, b14⟩
  have IG : Cal l.prog w K mg base 6 "_law_is_good" ["many", "act"] spIsGood f15 _ := ⟨ok_isGood F15 B, m15, k15, b15⟩
  exact ok_law F18 CT Mo V4 ER BT IG LO (A3.mono (by decide)) B

end FR
open PySem PySem.W PyProof.Rows
set_option maxRecDepth 100000 in
set_option maxHeartbeats 0 in
theorem PySem.Challenge.cw_firmroll_k01_deeds_looked_at_holds : PySem.Challenge.rw_firmroll_k01_deeds_looked_at.Holds := by
  w_on; o_law; k_head; (case hw => w_witness2)
  k_fill
  refine L2.walk_of (l := PySem.Challenge.rw_firmroll_k01_deeds_looked_at) (n := 63) (k := 7) (x := "script") (CX := fun _ => L2.CX0) (sp := fun w => FR.spLaw _) rfl (by decide) rfl ⟨rfl, by decide, by decide⟩ (fun w h Y => PySem.W.kIn_of Y) ?F (fun _ _ a ns hl _ hS => ⟨a, ns, rfl, hS, hl, fun _ => rfl⟩) (fun _ _ _ _ _ h => h)
  case F =>
    intro w mg fa h KX G hmg
    refine' FR.all_mk KX G hmg ?a1 ?l1 ?c1 ?k1 ?a2 ?l2 ?c2 ?k2 ?a3 ?l3 ?c3 ?k3 ?a4 ?l4 ?c4 ?k4 ?a5 ?l5 ?c5 ?k5 ?a6 ?l6 ?c6 ?k6 ?a7 ?l7 ?c7 ?k7 ?a8 ?l8 ?c8 ?k8 ?a9 ?l9 ?c9 ?k9 ?a10 ?l10 ?c10 ?k10 ?a11 ?l11 ?c11 ?k11 ?a12 ?l12 ?c12 ?k12 ?a13 ?l13 ?c13 ?k13 ?a14 ?l14 ?c14 ?k14 ?a15 ?l15 ?c15 ?k15 ?a16 ?l16 ?c16 ?k16 ?a17 ?l17 ?c17 ?k17 ?a18 ?l18 ?c18 ?k18 ?z1 ?z2 ?z3 ?z4 ?z5 ?z6 ?z7 ?z8 ?z9 ?z10 ?z11 ?z12 ?z13 ?z14 ?z15 ?z16 ?aC0 ?iC0 ?lI0 ?oC0 ?tI0 ?jC0 ?xC0 ?bC0 ?sC0 ?eC0 ?yC0 ?kC0 ?uC0 ?rC0 ?vC0 ?dC0 ?fC0 ?gC0 ?nC0 ?gaC0 ?ggC0 ?hC0 ?aC1 ?iC1 ?lI1 ?oC1 ?tI1 ?jC1 ?xC1 ?bC1 ?sC1 ?eC1 ?yC1 ?kC1 ?uC1 ?rC1 ?vC1 ?dC1 ?fC1 ?gC1 ?nC1 ?gaC1 ?ggC1 ?hC1 ?aC2 ?iC2 ?lI2 ?oC2 ?tI2 ?jC2 ?xC2 ?bC2 ?sC2 ?eC2 ?yC2 ?kC2 ?uC2 ?rC2 ?vC2 ?dC2 ?fC2 ?gC2 ?nC2 ?gaC2 ?ggC2 ?hC2 ?aC3 ?iC3 ?lI3 ?oC3 ?tI3 ?jC3 ?xC3 ?bC3 ?sC3 ?eC3 ?yC3 ?kC3 ?uC3 ?rC3 ?vC3 ?dC3 ?fC3 ?gC3 ?nC3 ?gaC3 ?ggC3 ?hC3 ?aC4 ?iC4 ?lI4 ?oC4 ?tI4 ?jC4 ?xC4 ?bC4 ?sC4 ?eC4 ?yC4 ?kC4 ?uC4 ?rC4 ?vC4 ?dC4 ?fC4 ?gC4 ?nC4 ?gaC4 ?ggC4 ?hC4 ?aC5 ?iC5 ?lI5 ?oC5 ?tI5 ?jC5 ?xC5 ?bC5 ?sC5 ?eC5 ?yC5 ?kC5 ?uC5 ?rC5 ?vC5 ?dC5 ?fC5 ?gC5 ?nC5 ?gaC5 ?ggC5 ?hC5 ?aC6 ?iC6 ?lI6 ?oC6 ?tI6 ?jC6 ?xC6 ?bC6 ?sC6 ?eC6 ?yC6 ?kC6 ?uC6 ?rC6 ?vC6 ?dC6 ?fC6 ?gC6 ?nC6 ?gaC6 ?ggC6 ?hC6 ?aC7 ?iC7 ?lI7 ?oC7 ?tI7 ?jC7 ?xC7 ?bC7 ?sC7 ?eC7 ?yC7 ?kC7 ?uC7 ?rC7 ?vC7 ?dC7 ?fC7 ?gC7 ?nC7 ?gaC7 ?ggC7 ?hC7 ?uO ?uT ?zC ?zn ?zt ?zm ?z0_ ?z1_ ?z2_ ?z3_ ?z4_ ?z5_ ?z6_ ?z7_ ?zv ?aR ?rB ?rD ?rT ?rS
    (case a1 => k_is)
    (case l1 => k_is)
    (case c1 => k_is)
    (case k1 => k_is)
    (case a2 => k_is)
    (case l2 => k_is)
    (case c2 => k_is)
    (case k2 => k_is)
    (case a3 => k_is)
    (case l3 => k_is)
    (case c3 => k_is)
    (case k3 => k_is)
    (case a4 => k_is)
    (case l4 => k_is)
    (case c4 => k_is)
    (case k4 => k_is)
    (case a5 => k_is)
    (case l5 => k_is)
    (case c5 => k_is)
    (case k5 => k_is)
    (case a6 => k_is)
    (case l6 => k_is)
    (case c6 => k_is)
    (case k6 => k_is)
    (case a7 => k_is)
    (case l7 => k_is)
    (case c7 => k_is)
    (case k7 => k_is)
    (case a8 => k_is)
    (case l8 => k_is)
    (case c8 => k_is)
    (case k8 => k_is)
    (case a9 => k_is)
    (case l9 => k_is)
    (case c9 => k_is)
    (case k9 => k_is)
    (case a10 => k_is)
    (case l10 => k_is)
    (case c10 => k_is)
    (case k10 => k_is)
    (case a11 => k_is)
    (case l11 => k_is)
    (case c11 => k_is)
    (case k11 => k_is)
    (case a12 => k_is)
    (case l12 => k_is)
    (case c12 => k_is)
    (case k12 => k_is)
    (case a13 => k_is)
    (case l13 => k_is)
    (case c13 => k_is)
    (case k13 => k_is)
    (case a14 => k_is)
    (case l14 => k_is)
    (case c14 => k_is)
    (case k14 => k_is)
    (case a15 => k_is)
    (case l15 => k_is)
    (case c15 => k_is)
    (case k15 => k_is)
    (case a16 => k_is)
    (case l16 => k_is)
    (case c16 => k_is)
    (case k16 => k_is)
    (case a17 => k_is)
    (case l17 => k_is)
    (case c17 => k_is)
    (case k17 => k_is)
    (case a18 => k_is)
    (case l18 => k_is)
    (case c18 => k_is)
    (case k18 => k_is)
    (case z1 => k_is)
    (case z2 => k_is)
    (case z3 => k_is)
    (case z4 => k_is)
    (case z5 => k_is)
    (case z6 => k_is)
    (case z7 => k_is)
    (case z8 => k_is)
    (case z9 => k_is)
    (case z10 => k_is)
    (case z11 => k_is)
    (case z12 => k_is)
    (case z13 => k_is)
    (case z14 => k_is)
    (case z15 => k_is)
    (case z16 => k_is)
    (case aC0 => k_is)
    (case iC0 => k_is)
    (case lI0 => k_is)
    (case oC0 => k_is)
    (case tI0 => k_is)
    (case jC0 => k_is)
    (case xC0 => k_is)
    (case bC0 => first | rfl | decide +kernel)
    (case sC0 => k_is)
    (case eC0 => k_is)
    (case yC0 => k_is)
    (case kC0 => k_is)
    (case uC0 => first | k_is | ks_is)
    (case rC0 => k_is)
    (case vC0 => k_is)
    (case dC0 => k_is)
    (case fC0 => first | rfl | k_is)
    (case gC0 => first | rfl | decide +kernel)
    (case nC0 => k_is)
    (case gaC0 => k_is)
    (case ggC0 => k_is)
    (case hC0 => k_is)
    (case aC1 => k_is)
    (case iC1 => k_is)
    (case lI1 => k_is)
    (case oC1 => k_is)
    (case tI1 => k_is)
    (case jC1 => k_is)
    (case xC1 => k_is)
    (case bC1 => first | rfl | decide +kernel)
    (case sC1 => k_is)
    (case eC1 => k_is)
    (case yC1 => k_is)
    (case kC1 => k_is)
    (case uC1 => first | k_is | ks_is)
    (case rC1 => k_is)
    (case vC1 => k_is)
    (case dC1 => k_is)
    (case fC1 => first | rfl | k_is)
    (case gC1 => first | rfl | decide +kernel)
    (case nC1 => k_is)
    (case gaC1 => k_is)
    (case ggC1 => k_is)
    (case hC1 => k_is)
    (case aC2 => k_is)
    (case iC2 => k_is)
    (case lI2 => k_is)
    (case oC2 => k_is)
    (case tI2 => k_is)
    (case jC2 => k_is)
    (case xC2 => k_is)
    (case bC2 => first | rfl | decide +kernel)
    (case sC2 => k_is)
    (case eC2 => k_is)
    (case yC2 => k_is)
    (case kC2 => k_is)
    (case uC2 => first | k_is | ks_is)
    (case rC2 => k_is)
    (case vC2 => k_is)
    (case dC2 => k_is)
    (case fC2 => first | rfl | k_is)
    (case gC2 => first | rfl | decide +kernel)
    (case nC2 => k_is)
    (case gaC2 => k_is)
    (case ggC2 => k_is)
    (case hC2 => k_is)
    (case aC3 => k_is)
    (case iC3 => k_is)
    (case lI3 => k_is)
    (case oC3 => k_is)
    (case tI3 => k_is)
    (case jC3 => k_is)
    (case xC3 => k_is)
    (case bC3 => first | rfl | decide +kernel)
    (case sC3 => k_is)
    (case eC3 => k_is)
    (case yC3 => k_is)
    (case kC3 => k_is)
    (case uC3 => first | k_is | ks_is)
    (case rC3 => k_is)
    (case vC3 => k_is)
    (case dC3 => k_is)
    (case fC3 => first | rfl | k_is)
    (case gC3 => first | rfl | decide +kernel)
    (case nC3 => k_is)
    (case gaC3 => k_is)
    (case ggC3 => k_is)
    (case hC3 => k_is)
    (case aC4 => k_is)
    (case iC4 => k_is)
    (case lI4 => k_is)
    (case oC4 => k_is)
    (case tI4 => k_is)
    (case jC4 => k_is)
    (case xC4 => k_is)
    (case bC4 => first | rfl | decide +kernel)
    (case sC4 => k_is)
    (case eC4 => k_is)
    (case yC4 => k_is)
    (case kC4 => k_is)
    (case uC4 => first | k_is | ks_is)
    (case rC4 => k_is)
    (case vC4 => k_is)
    (case dC4 => k_is)
    (case fC4 => first | rfl | k_is)
    (case gC4 => first | rfl | decide +kernel)
    (case nC4 => k_is)
    (case gaC4 => k_is)
    (case ggC4 => k_is)
    (case hC4 => k_is)
    (case aC5 => k_is)
    (case iC5 => k_is)
    (case lI5 => k_is)
    (case oC5 => k_is)
    (case tI5 => k_is)
    (case jC5 => k_is)
    (case xC5 => k_is)
    (case bC5 => first | rfl | decide +kernel)
    (case sC5 => k_is)
    (case eC5 => k_is)
    (case yC5 => k_is)
    (case kC5 => k_is)
    (case uC5 => first | k_is | ks_is)
    (case rC5 => k_is)
    (case vC5 => k_is)
    (case dC5 => k_is)
    (case fC5 => first | rfl | k_is)
    (case gC5 => first | rfl | decide +kernel)
    (case nC5 => k_is)
    (case gaC5 => k_is)
    (case ggC5 => k_is)
    (case hC5 => k_is)
    (case aC6 => k_is)
    (case iC6 => k_is)
    (case lI6 => k_is)
    (case oC6 => k_is)
    (case tI6 => k_is)
    (case jC6 => k_is)
    (case xC6 => k_is)
    (case bC6 => first | rfl | decide +kernel)
    (case sC6 => k_is)
    (case eC6 => k_is)
    (case yC6 => k_is)
    (case kC6 => k_is)
    (case uC6 => first | k_is | ks_is)
    (case rC6 => k_is)
    (case vC6 => k_is)
    (case dC6 => k_is)
    (case fC6 => first | rfl | k_is)
    (case gC6 => first | rfl | decide +kernel)
    (case nC6 => k_is)
    (case gaC6 => k_is)
    (case ggC6 => k_is)
    (case hC6 => k_is)
    (case aC7 => k_is)
    (case iC7 => k_is)
    (case lI7 => k_is)
    (case oC7 => k_is)
    (case tI7 => k_is)
    (case jC7 => k_is)
    (case xC7 => k_is)
    (case bC7 => first | rfl | decide +kernel)
    (case sC7 => k_is)
    (case eC7 => k_is)
    (case yC7 => k_is)
    (case kC7 => k_is)
    (case uC7 => first | k_is | ks_is)
    (case rC7 => k_is)
    (case vC7 => k_is)
    (case dC7 => k_is)
    (case fC7 => first | rfl | k_is)
    (case gC7 => first | rfl | decide +kernel)
    (case nC7 => k_is)
    (case gaC7 => k_is)
    (case ggC7 => k_is)
    (case hC7 => k_is)
    (case uO => k_is)
    (case uT => first | rfl | decide +kernel)
    (case zC => k_is)
    (case zn => k_is)
    (case zt => k_is)
    (case zm => k_is)
    (case z0_ => first | k_is | kit_is)
    (case z1_ => first | k_is | kit_is)
    (case z2_ => first | k_is | kit_is)
    (case z3_ => first | k_is | kit_is)
    (case z4_ => first | k_is | kit_is)
    (case z5_ => first | k_is | kit_is)
    (case z6_ => first | k_is | kit_is)
    (case z7_ => first | k_is | kit_is)
    (case zv => first | k_is | kit_is)
    (case aR => k_is)
    (case rB => k_is)
    (case rD => k_is)
    (case rT => k_is)
    (case rS => k_is)

