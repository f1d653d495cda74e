import PyProof.Rows.All
import Wide.All
import OpenK.AllK
import Wide.FinOn
import HandS.ForMost
import HandS.Walk
import HandS.Strs
import HandS.SetFor
import HandS.IsInst
import HandS.TupAny
import HandS.Codes
import HandS.SortKw
import HandS.Zip
import HandS.Defaults
import HandS.NoneIn
import HandS.MakeKwOnly
import HandS.Keys
import KE.SortCalls
import HandS.Nested
import HandS.ExcInit
import HandS.FStr
import HandS.FStrTup
import KE.KExcSuper
import HandS.ExcSuper
import HandS.Text
import HandS.RaiseMore
import HandS.StrMore
import PySem.Challenge.RW_firmroll_k51_deeds_read
set_option Elab.async false
set_option linter.all false
set_option maxRecDepth 100000
set_option maxHeartbeats 8000000
namespace FR
open PySem PySem.Spec PyProof.Rows L2
/-! ### heaps: all but what may change stays -/
structure Kp (S : List Addr) (H H' : Hp) : Prop where
  kp : ∀ b o, H b = some o → b ∉ S → H' b = some o
  tp : ∀ b xs, H b = some (.tup xs) → H' b = some (.tup xs)
  dm : ∀ b, H' b = none → H b = none
theorem Kp.refl (S : List Addr) (H : Hp) : Kp S H H := ⟨fun _ _ h _ => h, fun _ _ h => h, fun _ h => h⟩
theorem Kp.trans {S : List Addr} {H H1 H2 : Hp} (a : Kp S H H1) (b : Kp S H1 H2) : Kp S H H2 :=
  ⟨fun c o h n => b.kp c o (a.kp c o h n) n, fun c xs h => b.tp c xs (a.tp c xs h), fun c h => a.dm c (b.dm c h)⟩
theorem Kp.mono {S S' : List Addr} {H H' : Hp} (a : Kp S H H') (h : ∀ b, b ∈ S → b ∈ S') : Kp S' H H' :=
  ⟨fun c o e n => a.kp c o e fun m => n (h c m), a.tp, a.dm⟩
theorem Kp.of {S : List Addr} {H H' : Hp} (s : Same H H') : Kp S H H' := ⟨fun b o h _ => s b o h, fun b xs h => s b _ h, fun b h => s.free h⟩
theorem same_new {H : Hp} {p : Addr} {o : HO} (h : H p = none) : Same H (upd H p o) := fun b u q => by
  rw [upd_ne (ne_of_none q h)]
  exact q
theorem Kp.new {S : List Addr} {H : Hp} {p : Addr} {o : HO} (h : H p = none) : Kp S H (upd H p o) := .of (same_new h)
theorem Kp.set {S : List Addr} {H : Hp} {p : Addr} {xs : List V} {o : HO} (h : H p = some (.lst xs)) (m : p ∈ S) : Kp S H (upd H p o) := by
  refine ⟨fun b u e n => ?_, fun b ys e => ?_, fun b e => ?_⟩
  · have nb : b ≠ p := fun q => n (q ▸ m)
    rw [upd_ne nb]
    exact e
  · have nb : b ≠ p := fun q => by
      rw [q, h] at e
      cases e
    rw [upd_ne nb]
    exact e
  · by_cases nb : b = p
    · rw [nb, upd_same] at e
      cases e
    · rw [upd_ne nb] at e
      exact e
theorem Kp.over {S : List Addr} {H H1 : Hp} {p : Addr} {o : HO} (k : Kp S H H1) (h : H p = none) : Kp S H (upd H1 p o) := by
  refine ⟨fun b u e n => ?_, fun b ys e => ?_, fun b e => ?_⟩
  · rw [upd_ne (ne_of_none e h)]
    exact k.kp b u e n
  · rw [upd_ne (ne_of_none e h)]
    exact k.tp b ys e
  · by_cases nb : b = p
    · rw [nb]
      exact h
    · rw [upd_ne nb] at e
      exact k.dm b e
theorem Kp.same {H H' : Hp} (a : Kp [] H H') : Same H H' := fun b o e => a.kp b o e (by simp)
theorem Kp.lst {S : List Addr} {H H' : Hp} {p : Addr} {xs : List V} (a : Kp S H H') (h : H p = some (.lst xs)) (n : p ∉ S) : H' p = some (.lst xs) := a.kp p _ h n
/-- a place that is new behind H is none of those that stood in H -/
theorem nin_new {S : List Addr} {H : Hp} {p : Addr} (h : H p = none) (k : ∀ b, b ∈ S → H b ≠ none) : p ∉ S := fun m => k p m h
theorem ne_new {H : Hp} {a b : Addr} {o : HO} (h : H a = some o) (h' : H b = none) : b ≠ a := fun e => ne_of_none h h' e.symm

theorem sqT {K : PySem.W.Frag} {H : Hp} {a : Addr} {xs : List V} (h : H a = some (.tup xs)) : SqT K H a xs := .inl (.inl h)
theorem sqL {K : PySem.W.Frag} {H : Hp} {a : Addr} {xs : List V} (h : H a = some (.lst xs)) : SqL K H a xs := .inl (.inl h)
theorem upd_at {H : Hp} {a b : Addr} {o u : HO} (h : H b = some u) (n : H a = none) : (upd H a o) b = some u := by
  rw [upd_ne (ne_of_none h n)]
  exact h

/-! ### the tray -/
structure TrayAt (H : Hp) (t g : Addr) (N : Nat) : Prop where
  ex : ∃ (gs : List Int) (x f n : Int), H t = some (.lst [.ref g, .int x, .int f, .int n]) ∧ H g = some (.lst (gs.map V.int)) ∧ 0 ≤ f ∧ f < 2 ^ 61 ∧ 0 ≤ n ∧ n ≤ (N : Int)
theorem TrayAt.mono {H : Hp} {t g : Addr} {N M : Nat} (T : TrayAt H t g N) (h : N ≤ M) : TrayAt H t g M := by
  obtain ⟨gs, x, f, n, h1, h2, h3, h4, h5, h6⟩ := T.ex
  exact ⟨gs, x, f, n, h1, h2, h3, h4, h5, by omega⟩
theorem TrayAt.keep {S : List Addr} {H H' : Hp} {t g : Addr} {N : Nat} (T : TrayAt H t g N) (k : Kp S H H') (ht : t ∉ S) (hg : g ∉ S) : TrayAt H' t g N := by
  obtain ⟨gs, x, f, n, h1, h2, h3⟩ := T.ex
  exact ⟨gs, x, f, n, k.kp _ _ h1 ht, k.kp _ _ h2 hg, h3⟩
theorem TrayAt.same {H H' : Hp} {t g : Addr} {N : Nat} (T : TrayAt H t g N) (k : Same H H') : TrayAt H' t g N :=
  T.keep (S := []) (.of k) (by simp) (by simp)
theorem TrayAt.neT {H : Hp} {t g p : Addr} {N : Nat} (T : TrayAt H t g N) (h : H p = none) : p ∉ [t, g] := by
  obtain ⟨gs, x, f, n, h1, h2, h3⟩ := T.ex
  intro m
  simp only [List.mem_cons, List.not_mem_nil, or_false] at m
  rcases m with rfl | rfl
  · rw [h1] at h
    cases h
  · rw [h2] at h
    cases h
theorem TrayAt.over {H : Hp} {t g p : Addr} {N : Nat} {o : HO} (T : TrayAt H t g N) (h : p ∉ [t, g]) : TrayAt (upd H p o) t g N := by
  obtain ⟨gs, x, f, n, h1, h2, h3⟩ := T.ex
  simp only [List.mem_cons, List.not_mem_nil, or_false, not_or] at h
  exact ⟨gs, x, f, n, (upd_ne fun e => h.1 e.symm).trans h1, (upd_ne fun e => h.2 e.symm).trans h2, h3⟩
def spDraw : Sp := fun vs H Q _ => ∃ (t g : Addr) (N : Nat) (many : Int), vs = [.ref t, .int many] ∧ TrayAt H t g N ∧ N < 2 ^ 60 ∧ 0 < many ∧ many < 1073741824 ∧
  ∀ (H' : Hp) (k : Int), 0 ≤ k → k < many → TrayAt H' t g (N + 1) → Kp [t, g] H H' → Q (.int k) H'
def spTray (K : PySem.W.Frag) : Sp := fun vs H Q _ => ∃ (a : Addr) (ns : List Int), vs = [.ref a] ∧ SqL K H a (ns.map V.int) ∧ ns.length ≤ 63 ∧
  ∀ (t g : Addr) (H' : Hp), Same H H' → H t = none → H g = none → TrayAt H' t g 0 → Q (.ref t) H'
theorem map_int_at {ns : List Int} {i : Nat} {y : V} (h : (ns.map V.int)[i]? = some y) : ∃ z, ns[i]? = some z ∧ y = V.int z := by
  rw [List.getElem?_map] at h
  cases e : ns[i]? with
  | none =>
    rw [e] at h
    cases h
  | some z =>
    rw [e] at h
    exact ⟨z, rfl, (Option.some.inj h).symm⟩
def lenAt (g : Addr) (H : Hp) : Nat := match H g with
  | some (.lst xs) => xs.length
  | _ => 0
theorem lenAt_of {g : Addr} {H : Hp} {xs : List V} (h : H g = some (.lst xs)) : lenAt g H = xs.length := by
  unfold lenAt
  rw [h]
theorem eqv_ints_nil : ∀ gs : List Int, PyData.eqv (.list (gs.map PyData.int)) (.list []) = gs.isEmpty
  | [] => rfl
  | _ :: _ => rfl
theorem dpInts {K : PySem.W.Frag} {H : Hp} : ∀ gs : List Int, DpAll K H (gs.map V.int) (gs.map PyData.int)
  | [] => .nil
  | g :: r => .cons (.int g) (dpInts r)
theorem erase0 (gs : List Int) : (gs.map V.int).eraseIdx 0 = (gs.drop 1).map V.int := by cases gs <;> rfl
end FR
namespace FR
open PySem PySem.Spec PyProof.Rows L2
/-! ### words -/
def WordOk (s : Str) : Prop := 1 ≤ (TL.tl s).length ∧ (TL.tl s).length ≤ 8 ∧ ∀ c ∈ TL.tl s, 97 ≤ c ∧ c ≤ 122
instance (s : Str) : Decidable (WordOk s) := by unfold WordOk; infer_instance
def someWords : List Str := ["give", "take", "use", "lead", "seen", "a", "b", "ab"]
theorem some_ok : ∀ s ∈ someWords, WordOk s := by decide +kernel
theorem some_at {k : Int} (h0 : 0 ≤ k) (h1 : k < 8) : ∃ s, atI (someWords.map V.str) k = some (.str s) ∧ WordOk s := by
  have hk : k.toNat < someWords.length := by show k.toNat < 8; omega
  refine ⟨someWords[k.toNat], ?_, some_ok _ (List.getElem_mem hk)⟩
  refine at_of (j := k.toNat) (by omega) ?_
  rw [List.getElem?_map, List.getElem?_eq_getElem hk]
  rfl
def abc : Str := "abcdefghijklmnopqrstuvwxyz"
theorem abc_all : ∀ j : Fin 26, abc.cps.toList[j.val]? = some (97 + j.val) := by decide +kernel
theorem abc_len : abc.length ≤ sizeLine := by decide +kernel
theorem abc_at {k : Int} (h0 : 0 ≤ k) (h1 : k < 26) : atI abc.cps.toList k = some (97 + k.toNat) := by
  have e : k = ((k.toNat : Nat) : Int) := by omega
  have h := abc_all ⟨k.toNat, by omega⟩
  rw [e]
  exact atI_nat h
/-- the text of these small letters -/
def letters (l : List Nat) : Str := ⟨l.toArray⟩
theorem join_one : ∀ l : List Nat, TL.tl (Txt.join Str.empty (l.map fun c => (⟨#[c]⟩ : Str))) = l := fun l => by
  rw [TL.join_eq, TL.tl_join]
  induction l with
  | nil => rfl
  | cons c r ih =>
    cases r with
    | nil => rfl
    | cons d r =>
      have e : TL.joinL (TL.tl Str.empty) (List.map TL.tl (List.map (fun c => (⟨#[c]⟩ : Str)) (c :: d :: r))) = [c] ++ ([] ++ TL.joinL (TL.tl Str.empty) (List.map TL.tl (List.map (fun c => (⟨#[c]⟩ : Str)) (d :: r)))) := rfl
      rw [e, ih]
      rfl
theorem ones_sum : ∀ l : List Nat, ((l.map fun c => (⟨#[c]⟩ : Str)).map (·.length)).sum = l.length
  | [] => rfl
  | c :: r => by
    rw [List.map_cons, List.map_cons, List.sum_cons, ones_sum r, List.length_cons, Nat.add_comm]
    rfl
def spWord : Sp := fun vs H Q _ => ∃ (t g : Addr) (N : Nat), vs = [.ref t] ∧ TrayAt H t g N ∧ N + 20 < 2 ^ 60 ∧
  ∀ (H' : Hp) (s : Str), WordOk s → TrayAt H' t g (N + 12) → Kp [t, g] H H' → Q (.str s) H'
end FR
namespace FR
open PySem PySem.Spec PyProof.Rows L2
/-! ### what is done, deeds -/
inductive What where
  | give (p k : Str) (m : Int)
  | take (p k : Str) (m : Int)
  | use (p v : Str)
  deriving DecidableEq
def What.vs : What → List V
  | .give p k m => [.str "give", .str p, .str k, .int m]
  | .take p k m => [.str "take", .str p, .str k, .int m]
  | .use p v => [.str "use", .str p, .str v]
def KindOk (k : Str) : Prop := k = "use" ∨ k = "lead"
def What.Ok (who many : Int) : What → Prop
  | .give p k m => WordOk p ∧ KindOk k ∧ who < m ∧ m < many
  | .take p k m => WordOk p ∧ KindOk k ∧ who < m ∧ m < many
  | .use p v => WordOk p ∧ WordOk v
structure Act where
  who : Int
  num : Int
  note : List Int
  what : What
  deriving DecidableEq
def ActAt (H : Hp) (p : Addr) (a : Act) : Prop := ∃ n q, H p = some (.tup [.int a.who, .int a.num, .ref n, .ref q]) ∧ H n = some (.tup (a.note.map V.int)) ∧ H q = some (.tup a.what.vs)
theorem ActAt.keep {S : List Addr} {H H' : Hp} {p : Addr} {a : Act} (h : ActAt H p a) (k : Kp S H H') : ActAt H' p a := by
  obtain ⟨n, q, h1, h2, h3⟩ := h
  exact ⟨n, q, k.tp _ _ h1, k.tp _ _ h2, k.tp _ _ h3⟩
abbrev ActsAt (H : Hp) (ps : List Addr) (as : List Act) : Prop := Paired (fun p a => ActAt H p a) ps as
theorem ActsAt.keep {S : List Addr} {H H' : Hp} {ps : List Addr} {as : List Act} (h : ActsAt H ps as) (k : Kp S H H') : ActsAt H' ps as := Paired.mapP h fun _ _ q => q.keep k
theorem paired_snoc {α β : Type} {F : α → β → Prop} : ∀ {xs : List α} {ys : List β} {x : α} {y : β}, Paired F xs ys → F x y → Paired F (xs ++ [x]) (ys ++ [y])
  | _, _, _, _, .nil, h => .cons h .nil
  | _, _, _, _, .cons r t, h => .cons r (paired_snoc t h)
theorem paired_at {α β : Type} {F : α → β → Prop} : ∀ {xs : List α} {ys : List β} {i : Nat} {x : α}, Paired F xs ys → xs[i]? = some x → ∃ y, ys[i]? = some y ∧ F x y
  | _, _, _, _, .nil, h => by simp at h
  | _, _, 0, _, .cons r t, h => by
    simp at h
    subst h
    exact ⟨_, rfl, r⟩
  | _, _, i + 1, x, .cons r t, h => by
    obtain ⟨y, h1, h2⟩ := paired_at (i := i) (x := x) t (by simpa using h)
    exact ⟨y, by simpa using h1, h2⟩
theorem strs_at {ms : List Str} {k : Int} (h0 : 0 ≤ k) (h1 : k < (ms.length : Int)) : ∃ s, s ∈ ms ∧ atI (ms.map V.str) k = some (.str s) := by
  have hk : k.toNat < ms.length := by omega
  refine ⟨ms[k.toNat], List.getElem_mem hk, at_of (j := k.toNat) (by omega) ?_⟩
  rw [List.getElem?_map, List.getElem?_eq_getElem hk]
  rfl
theorem kind_at {k : Int} (h0 : 0 ≤ k) (h1 : k < 2) : ∃ s, KindOk s ∧ atI ([.str "use", .str "lead"] : List V) k = some (.str s) := by
  obtain ⟨s, m, e⟩ := strs_at (ms := ["use", "lead"]) h0 h1
  refine ⟨s, ?_, e⟩
  simp at m
  exact m
theorem deal_at {k : Int} (h0 : 0 ≤ k) (h1 : k < 4) : ∃ s : Str, (s = "give" ∨ s = "take") ∧ atI ([.str "give", .str "give", .str "give", .str "take"] : List V) k = some (.str s) := by
  obtain ⟨s, m, e⟩ := strs_at (ms := ["give", "give", "give", "take"]) h0 h1
  refine ⟨s, ?_, e⟩
  simp at m
  exact m
def spWhat : Sp := fun vs H Q _ => ∃ (t g m : Addr) (N : Nat) (who many : Int) (ms : List Str), vs = [.ref t, .int who, .int many, .ref m] ∧ TrayAt H t g N ∧ N + 40 < 2 ^ 60 ∧ 0 ≤ who ∧ who < many ∧ many ≤ 6 ∧
  H m = some (.lst (ms.map V.str)) ∧ m ∉ [t, g] ∧ ms ≠ [] ∧ ms.length ≤ 3 ∧ (∀ s ∈ ms, WordOk s) ∧
  ∀ (H' : Hp) (q : Addr) (wt : What), H q = none → H' q = some (.tup wt.vs) → wt.Ok who many → TrayAt H' t g (N + 16) → Kp [t, g] H H' → Q (.ref q) H'
end FR
namespace FR
open PySem PySem.Spec PyProof.Rows L2
/-! ### a world: deeds done one behind the other -/
/-- the deeds so far, and what each member knows of them -/
inductive Wd (many : Nat) : List Act → List (List Int) → Prop
  | nil : Wd many [] (List.replicate many (List.replicate many 0))
  | step {acts : List Act} {known : List (List Int)} {i : Nat} {row row' : List Int} {c : Int} {wt : What} : Wd many acts known → known[i]? = some row →
      (row' = row ∨ ∃ (j : Nat) (ro : List Int), known[j]? = some ro ∧ row' = List.zipWith max row ro) → row'[i]? = some c → wt.Ok i many →
      Wd many (acts ++ [⟨i, c + 1, row', wt⟩]) (known.set i (row'.set i (c + 1)))
theorem Wd.lens {many : Nat} {acts : List Act} {known : List (List Int)} (h : Wd many acts known) : known.length = many ∧ ∀ r ∈ known, r.length = many := by
  induction h with
  | nil => exact ⟨List.length_replicate, fun r m => by rw [(List.mem_replicate.mp m).2]; exact List.length_replicate⟩
  | step w hi hr hc ok ih =>
    obtain ⟨h1, h2⟩ := ih
    refine ⟨by rw [List.length_set]; exact h1, fun r m => ?_⟩
    rcases List.mem_or_eq_of_mem_set m with m | rfl
    · exact h2 r m
    · rw [List.length_set]
      have q := h2 _ (List.mem_of_getElem? hi)
      rcases hr with rfl | ⟨j, ro, hj, rfl⟩
      · exact q
      · rw [List.length_zipWith, q, h2 _ (List.mem_of_getElem? hj), Nat.min_self]
theorem paired_set {α β : Type} {F : α → β → Prop} {x : α} {y : β} (r : F x y) : ∀ {xs : List α} {ys : List β} (i : Nat), Paired F xs ys → Paired F (xs.set i x) (ys.set i y)
  | _, _, _, .nil => .nil
  | _, _, 0, .cons _ t => .cons r t
  | _, _, i + 1, .cons q t => .cons q (paired_set r i t)
theorem paired_len {α β : Type} {F : α → β → Prop} {xs : List α} {ys : List β} (h : Paired F xs ys) : xs.length = ys.length := Paired.length h
theorem paired_at2 {α β : Type} {F : α → β → Prop} : ∀ {xs : List α} {ys : List β} {i : Nat} {y : β}, Paired F xs ys → ys[i]? = some y → ∃ x, xs[i]? = some x ∧ F x y
  | _, _, _, _, .nil, h => by simp at h
  | _, _, 0, _, .cons r t, h => by
    simp at h
    subst h
    exact ⟨_, rfl, r⟩
  | _, _, i + 1, x, .cons r t, h => by
    obtain ⟨y, h1, h2⟩ := paired_at2 (i := i) (y := x) t (by simpa using h)
    exact ⟨y, by simpa using h1, h2⟩
/-- only the i-th is looked at anew -/
theorem paired_imp_ne {α β : Type} {F G : α → β → Prop} : ∀ {xs : List α} {ys : List β} (p : α → Prop), Paired F xs ys → (∀ x ∈ xs, p x) → (∀ x y, p x → F x y → G x y) → Paired G xs ys
  | _, _, _, .nil, _, _ => .nil
  | _, _, p, .cons r t, h, f => .cons (f _ _ (h _ (List.mem_cons_self ..)) r) (paired_imp_ne p t (fun x m => h x (List.mem_cons_of_mem _ m)) f)
abbrev RowsAt (H : Hp) (as : List Addr) (known : List (List Int)) : Prop := Paired (fun a (r : List Int) => H a = some (.lst (r.map V.int))) as known
theorem max_int (i j : Int) : (if j > i then j else i) = max i j := by
  rw [Int.max_def]
  split <;> split <;> omega
/-- the heap while a world is made: H0 ahead of it; kn what is known, ac the deeds, m the powers; the tray as at N -/
structure WAt (H0 H : Hp) (t g m kn ac : Addr) (ms : List Str) (as ps : List Addr) (acts : List Act) (known : List (List Int)) (N : Nat) : Prop where
  hkn : H kn = some (.lst (as.map V.ref))
  hac : H ac = some (.lst (ps.map V.ref))
  hm : H m = some (.lst (ms.map V.str))
  rows : RowsAt H as known
  nd : as.Nodup
  apart : ∀ a ∈ as, a ∉ [t, g, kn, ac, m]
  nkn : kn ∉ [t, g, ac, m]
  nac : ac ∉ [t, g, m]
  nm : m ∉ [t, g]
  acts : ActsAt H ps acts
  T : TrayAt H t g N
  kp : Kp [t, g] H0 H
  fkn : H0 kn = none
  fac : H0 ac = none
  frows : ∀ a ∈ as, H0 a = none
section
variable {H0 H H' : Hp} {t g m kn ac : Addr} {ms : List Str} {as ps : List Addr} {acts : List Act} {known : List (List Int)} {N M : Nat}
theorem RowsAt.keep {S : List Addr} (h : RowsAt H as known) (k : Kp S H H') (n : ∀ a ∈ as, a ∉ S) : RowsAt H' as known :=
  paired_imp_ne (fun a => a ∉ S) h n fun x y nx e => k.kp x _ e nx
/-- the tray was drawn from, new things were made -/
theorem WAt.keep (W : WAt H0 H t g m kn ac ms as ps acts known N) (k : Kp [t, g] H H') (T : TrayAt H' t g M) : WAt H0 H' t g m kn ac ms as ps acts known M := by
  have n1 := W.nkn
  have n2 := W.nac
  have n3 := W.nm
  simp only [List.mem_cons, List.not_mem_nil, or_false, not_or] at n1 n2 n3
  refine { W with
    hkn := k.kp _ _ W.hkn (by simp [n1])
    hac := k.kp _ _ W.hac (by simp [n2])
    hm := k.kp _ _ W.hm (by simp [n3])
    rows := W.rows.keep k fun a h => ?_
    acts := W.acts.keep k
    T := T
    kp := W.kp.trans k }
  have q := W.apart a h
  simp only [List.mem_cons, List.not_mem_nil, or_false, not_or] at q ⊢
  exact ⟨q.1, q.2.1⟩
theorem WAt.mono (W : WAt H0 H t g m kn ac ms as ps acts known N) (h : N ≤ M) : WAt H0 H t g m kn ac ms as ps acts known M := { W with T := W.T.mono h }
theorem WAt.row (W : WAt H0 H t g m kn ac ms as ps acts known N) {i : Nat} {row : List Int} (h : known[i]? = some row) : ∃ a, as[i]? = some a ∧ H a = some (.lst (row.map V.int)) ∧ (as.map V.ref)[i]? = some (V.ref a) := by
  obtain ⟨a, h1, h2⟩ := paired_at2 W.rows h
  refine ⟨a, h1, h2, ?_⟩
  rw [List.getElem?_map, h1]
  rfl
theorem nd_set {α : Type} {l : List α} {i : Nat} {x : α} (h : l.Nodup) (n : x ∉ l) : (l.set i x).Nodup := by
  induction l generalizing i with
  | nil => exact h
  | cons a r ih =>
    rw [List.nodup_cons] at h
    rw [List.mem_cons, not_or] at n
    cases i with
    | zero =>
      show (x :: r).Nodup
      rw [List.nodup_cons]
      exact ⟨n.2, h.2⟩
    | succ i =>
      show (a :: r.set i x).Nodup
      rw [List.nodup_cons]
      refine ⟨fun m => ?_, ih h.2 n.2⟩
      rcases List.mem_or_eq_of_mem_set m with m | e
      · exact h.1 m
      · exact n.1 e.symm
theorem map_set_ref (as : List Addr) (i : Nat) (D : Addr) : (as.map V.ref).set i (.ref D) = (as.set i D).map V.ref := by rw [List.map_set]
/-- known[i] = the new list at D -/
theorem WAt.put (W : WAt H0 H t g m kn ac ms as ps acts known N) {i : Nat} {row : List Int} {D : Addr} (hD : H D = some (.lst (row.map V.int))) (nD : D ∉ [t, g, kn, ac, m]) (nas : D ∉ as) (f : H0 D = none) :
    WAt H0 (upd H kn (.lst ((as.set i D).map V.ref))) t g m kn ac ms (as.set i D) ps acts (known.set i row) N := by
  have n1 := W.nkn
  have n2 := W.nac
  have n3 := W.nm
  simp only [List.mem_cons, List.not_mem_nil, or_false, not_or] at n1 n2 n3 nD
  have hkn : ∀ a ∈ as, a ≠ kn := fun a h e => W.apart a h (by rw [e]; simp)
  refine {
    hkn := upd_same, hac := (upd_ne fun e => n1.2.2.1 e.symm).trans W.hac, hm := (upd_ne fun e => n1.2.2.2 e.symm).trans W.hm, rows := ?_, nd := nd_set W.nd nas, apart := fun a h => ?_, nkn := W.nkn, nac := W.nac, nm := W.nm,
    acts := W.acts.keep (S := [kn]) (.set W.hkn (by simp)), T := W.T.over (by simp [n1]), kp := W.kp.over W.fkn, fkn := W.fkn, fac := W.fac, frows := fun a h => ?_ }
  · refine paired_set (F := fun (a : Addr) (r : List Int) => upd H kn (.lst ((as.set i D).map V.ref)) a = some (.lst (r.map V.int))) ((upd_ne nD.2.2.1).trans hD) i (paired_imp_ne (fun (a : Addr) => a ≠ kn) W.rows hkn fun x y nx e => (upd_ne nx).trans e)
  · rcases List.mem_or_eq_of_mem_set h with h | rfl
    · exact W.apart a h
    · simp only [List.mem_cons, List.not_mem_nil, or_false, not_or]
      exact nD
  · rcases List.mem_or_eq_of_mem_set h with h | rfl
    · exact W.frows a h
    · exact f
/-- known[i][..] = ..: the i-th row is changed in its place -/
theorem WAt.turn (W : WAt H0 H t g m kn ac ms as ps acts known N) {i : Nat} {row old : List Int} {r : Addr} (hr : as[i]? = some r) (ho : H r = some (.lst (old.map V.int))) :
    WAt H0 (upd H r (.lst (row.map V.int))) t g m kn ac ms as ps acts (known.set i row) N := by
  have mr := List.mem_of_getElem? hr
  have q := W.apart r mr
  simp only [List.mem_cons, List.not_mem_nil, or_false, not_or] at q
  have e : as = as.set i r := by
    obtain ⟨hl, he⟩ := List.getElem?_eq_some_iff.mp hr
    rw [← he, List.set_getElem_self]
  refine { W with
    hkn := (upd_ne fun e => q.2.2.1 e.symm).trans W.hkn, hac := (upd_ne fun e => q.2.2.2.1 e.symm).trans W.hac, hm := (upd_ne fun e => q.2.2.2.2 e.symm).trans W.hm, rows := ?_,
    acts := W.acts.keep (S := [r]) (.set ho (by simp)), T := W.T.over (by simp [q]), kp := W.kp.over (W.frows r mr) }
  -- all other rows stand at other places
  have all : ∀ {bs : List Addr} {ks : List (List Int)} {i : Nat}, bs[i]? = some r → bs.Nodup → RowsAt H bs ks → RowsAt (upd H r (.lst (row.map V.int))) bs (ks.set i row) := by
    intro bs
    induction bs with
    | nil =>
      intro ks i h
      simp at h
    | cons b bs ih =>
      intro ks i h nd p
      rw [List.nodup_cons] at nd
      cases p with
      | cons p1 p2 =>
        cases i with
        | zero =>
          simp at h
          subst h
          refine .cons upd_same (paired_imp_ne (fun (a : Addr) => a ≠ b) p2 (fun a ma e => nd.1 (e ▸ ma)) fun x y nx e => (upd_ne nx).trans e)
        | succ i =>
          have h : bs[i]? = some r := by simpa using h
          have nb : b ≠ r := fun e => nd.1 (e ▸ List.mem_of_getElem? h)
          exact .cons ((upd_ne nb).trans p1) (ih h nd.2 p2)
  exact all hr W.nd W.rows
/-- acts.append(..) -/
theorem WAt.app (W : WAt H0 H t g m kn ac ms as ps acts known N) {p : Addr} {a : Act} (ha : ActAt H p a) : WAt H0 (upd H ac (.lst (ps.map V.ref ++ [.ref p]))) t g m kn ac ms as (ps ++ [p]) (acts ++ [a]) known N := by
  have n1 := W.nkn
  have n2 := W.nac
  simp only [List.mem_cons, List.not_mem_nil, or_false, not_or] at n1 n2
  have k : Kp [ac] H (upd H ac (.lst (ps.map V.ref ++ [.ref p]))) := .set W.hac (by simp)
  refine { W with hkn := (upd_ne n1.2.2.1).trans W.hkn, hac := ?_, hm := (upd_ne fun e => n2.2.2 e.symm).trans W.hm, rows := ?_, acts := paired_snoc (W.acts.keep k) (ha.keep k), T := W.T.over (by simp [n2]), kp := W.kp.over W.fac }
  · rw [upd_same, List.map_append]
    rfl
  · refine W.rows.keep k fun a h => ?_
    have q := W.apart a h
    simp only [List.mem_cons, List.not_mem_nil, or_false, not_or] at q ⊢
    exact q.2.2.2.1
end
def spWorld : Sp := fun vs H Q _ => ∃ (t g : Addr) (N : Nat) (most : Int), vs = [.ref t, .int most] ∧ TrayAt H t g N ∧ 0 ≤ most ∧ most ≤ 1000 ∧ N < 2 ^ 59 ∧
  ∀ (H' : Hp) (r ac : Addr) (ps : List Addr) (many : Nat) (acts : List Act) (known : List (List Int)), 1 ≤ many → many ≤ 6 → (acts.length : Int) ≤ most → Wd many acts known → H r = none → H ac = none → r ∉ [t, g, ac] → ac ∉ [t, g] →
    H' r = some (.lst [.int many, .ref ac]) → H' ac = some (.lst (ps.map V.ref)) → ActsAt H' ps acts → TrayAt H' t g (N + 100 + 20 * most.toNat) → Kp [t, g] H H' → Q (.ref r) H'
def spMost : Sp := fun vs H Q _ => ∃ (t g : Addr) (N : Nat), vs = [.ref t] ∧ TrayAt H t g N ∧ N < 2 ^ 59 ∧
  ∀ (H' : Hp) (k : Int), 0 ≤ k → k ≤ 110 → TrayAt H' t g (N + 1) → Kp [t, g] H H' → Q (.int k) H'
end FR
namespace FR
open PySem PySem.Spec PyProof.Rows L2
theorem ixN_of {n : Nat} {z : Int} {j : Nat} (e : z = (j : Int)) (h : j < n) : ixN n z = some j := by
  subst e
  unfold ixN
  rw [if_pos (by omega), if_pos (by omega)]
  simp
theorem rep_zero (n : Nat) : (List.replicate n ([V.int 0] : List V)).flatten = (List.replicate n (0 : Int)).map V.int := by
  induction n with
  | zero => rfl
  | succ n ih => rw [List.replicate_succ, List.flatten_cons, ih, List.replicate_succ, List.map_cons]; rfl
theorem ints_at {l : List Int} {i : Nat} {c : Int} (h : l[i]? = some c) : (l.map V.int)[i]? = some (.int c) := by
  rw [List.getElem?_map, h]
  rfl
theorem get_some {α : Type} {l : List α} {i : Nat} (h : i < l.length) : ∃ x, l[i]? = some x := ⟨l[i], List.getElem?_eq_getElem h⟩
theorem zip_take {f : Int → Int → Int} {r s : List Int} {i : Nat} {x y : Int} (h1 : r[i]? = some x) (h2 : s[i]? = some y) : (List.zipWith f r s).take (i + 1) = (List.zipWith f r s).take i ++ [f x y] := by
  rw [List.take_add_one, List.getElem?_zipWith, h1, h2]
  rfl
end FR
namespace FR
open PySem PySem.Spec PyProof.Rows L2
/-! ### two values alike, down to a depth -/
def plainV : V → Bool
  | .non => true
  | .bl _ => true
  | .int _ => true
  | .str _ => true
  | _ => false
def Al (H : Hp) : Nat → V → V → Prop
  | 0, _, _ => False
  | n + 1, x, y => (x = y ∧ plainV x = true) ∨ ∃ (a b : Addr) (xs ys : List V), x = .ref a ∧ y = .ref b ∧ ((H a = some (.lst xs) ∧ H b = some (.lst ys)) ∨ (H a = some (.tup xs) ∧ H b = some (.tup ys))) ∧ xs.length = ys.length ∧ xs.length ≤ 1000 ∧
      ∀ (i : Nat) (u v : V), xs[i]? = some u → ys[i]? = some v → Al H n u v
theorem Al.same {H H' : Hp} (s : Same H H') : ∀ {n : Nat} {x y : V}, Al H n x y → Al H' n x y
  | 0, _, _, h => h.elim
  | n + 1, x, y, h => by
    rcases h with h | ⟨a, b, xs, ys, e1, e2, h, hl, hn, f⟩
    · exact .inl h
    · refine .inr ⟨a, b, xs, ys, e1, e2, ?_, hl, hn, fun i u v h1 h2 => (f i u v h1 h2).same s⟩
      rcases h with ⟨h1, h2⟩ | ⟨h1, h2⟩
      · exact .inl ⟨s _ _ h1, s _ _ h2⟩
      · exact .inr ⟨s _ _ h1, s _ _ h2⟩
theorem Al.flat {H : Hp} {n : Nat} {x : V} (h : plainV x = true) : Al H (n + 1) x x := .inl ⟨rfl, h⟩
/-- by the lists' items one behind the other -/
theorem Al.list {H : Hp} {n : Nat} {a b : Addr} {xs ys : List V} (h1 : H a = some (.lst xs)) (h2 : H b = some (.lst ys)) (hn : xs.length ≤ 1000) (p : Paired (Al H n) xs ys) : Al H (n + 1) (.ref a) (.ref b) :=
  .inr ⟨a, b, xs, ys, rfl, rfl, .inl ⟨h1, h2⟩, paired_len p, hn, fun i u v e1 e2 => by
    obtain ⟨z, e3, q⟩ := paired_at p e1
    rw [e2] at e3
    cases e3
    exact q⟩
theorem Al.tup {H : Hp} {n : Nat} {a b : Addr} {xs ys : List V} (h1 : H a = some (.tup xs)) (h2 : H b = some (.tup ys)) (hn : xs.length ≤ 1000) (p : Paired (Al H n) xs ys) : Al H (n + 1) (.ref a) (.ref b) :=
  .inr ⟨a, b, xs, ys, rfl, rfl, .inr ⟨h1, h2⟩, paired_len p, hn, fun i u v e1 e2 => by
    obtain ⟨z, e3, q⟩ := paired_at p e1
    rw [e2] at e3
    cases e3
    exact q⟩
def spAlike (n : Nat) : Sp := fun vs H Q _ => ∃ (x y : V), vs = [x, y] ∧ Al H n x y ∧ ∀ H' : Hp, Same H H' → Q (.bl true) H'
end FR
namespace FR
open PySem PySem.Spec PyProof.Rows L2
/-! ### deeds as data -/
def What.data : What → List PyData
  | .give p k m => [.str "give", .str p, .str k, .int m]
  | .take p k m => [.str "take", .str p, .str k, .int m]
  | .use p v => [.str "use", .str p, .str v]
def Act.data (a : Act) : PyData := .tuple [.int a.who, .int a.num, .tuple (a.note.map PyData.int), .tuple a.what.data]
theorem What.dp {K : PySem.W.Frag} {H : Hp} : ∀ w : What, DpAll K H w.vs w.data
  | .give _ _ _ => .cons (.str _) (.cons (.str _) (.cons (.str _) (.cons (.int _) .nil)))
  | .take _ _ _ => .cons (.str _) (.cons (.str _) (.cons (.str _) (.cons (.int _) .nil)))
  | .use _ _ => .cons (.str _) (.cons (.str _) (.cons (.str _) .nil))
theorem ActAt.dp {K : PySem.W.Frag} {H : Hp} {p : Addr} {a : Act} (h : ActAt H p a) : Dp K H (.ref p) a.data := by
  obtain ⟨n, q, h1, h2, h3⟩ := h
  exact .tup (sqT h1) (.cons (.int _) (.cons (.int _) (.cons (.tup (sqT h2) (dpInts _)) (.cons (.tup (sqT h3) a.what.dp) .nil))))
theorem word_str {s : Str} (h : WordOk s) : PyData.strOk s = true := by
  show s.cps.all (· < 0x110000) = true
  rw [Array.all_eq_true]
  intro i hi
  have q := h.2.2 s.cps[i] (by show s.cps[i] ∈ s.cps.toList; simp)
  exact decide_eq_true (by omega)
theorem kind_str {s : Str} (h : KindOk s) : PyData.strOk s = true := by rcases h with rfl | rfl <;> decide +kernel
/-- its texts are words -/
def What.Fit : What → Prop
  | .give p k _ => WordOk p ∧ KindOk k
  | .take p k _ => WordOk p ∧ KindOk k
  | .use p v => WordOk p ∧ WordOk v
theorem What.Ok.fit {who many : Int} : ∀ {w : What}, w.Ok who many → w.Fit
  | .give _ _ _, h => ⟨h.1, h.2.1⟩
  | .take _ _ _, h => ⟨h.1, h.2.1⟩
  | .use _ _, h => h
theorem What.lay {w : What} (h : w.Fit) : PyData.canLayAll0 w.data = true := by
  have e1 : PyData.strOk "give" = true := by decide +kernel
  have e2 : PyData.strOk "take" = true := by decide +kernel
  have e3 : PyData.strOk "use" = true := by decide +kernel
  cases w with
  | give p k m => simp [What.data, PyData.canLayAll0, PyData.canLay0, e1, word_str h.1, kind_str h.2]
  | take p k m => simp [What.data, PyData.canLayAll0, PyData.canLay0, e2, word_str h.1, kind_str h.2]
  | use p v => simp [What.data, PyData.canLayAll0, PyData.canLay0, e3, word_str h.1, word_str h.2]
theorem What.deep (w : What) : PyData.depthAll w.data ≤ 1 := by cases w <;> simp [What.data, PyData.depthAll, PyData.depth]
theorem Act.shaped {a : Act} (hf : a.what.Fit) : SeqAt.shaped a.data = true := by
  have h1 := PySem.W.canLayAll0_ints a.note
  have h2 := PySem.W.depthAll_ints a.note
  have h3 := What.lay hf
  have h4 := a.what.deep
  unfold SeqAt.shaped Act.data
  rw [Bool.and_eq_true]
  refine ⟨?_, decide_eq_true ?_⟩
  · simp only [PyData.canLay0, PyData.canLayAll0, h1, h3, Bool.and_self]
  · simp only [PyData.depth, PyData.depthAll]
    omega
theorem Act.eqv {a : Act} (hf : a.what.Fit) : PyData.eqv a.data a.data = true := SeqAt.eqv_refl _ (SeqAt.canLay_of_shaped (Act.shaped hf))
theorem two_shaped (i j : Int) : SeqAt.shaped (.tuple [.int i, .int j]) = true := by
  unfold SeqAt.shaped
  simp [PyData.canLay0, PyData.canLayAll0, PyData.depth, PyData.depthAll]
theorem two_eqv (i j : Int) : PyData.eqv (.tuple [.int i, .int j]) (.tuple [.int i, .int j]) = true := SeqAt.eqv_refl _ (SeqAt.canLay_of_shaped (two_shaped i j))
/-- whether a deed has seen that of a mark -/
def Act.seen (a : Act) (o k : Int) : Bool := decide (0 ≤ o) && decide (o < (a.note.length : Int)) && (decide (1 ≤ k) && decide (k ≤ a.note.getD o.toNat 0))
def spMark : Sp := fun vs H Q _ => ∃ (p : Addr) (a : Act), vs = [.ref p] ∧ ActAt H p a ∧ ∀ (q : Addr) (H' : Hp), Same H H' → H q = none → H' q = some (.tup [.int a.who, .int a.num]) → Q (.ref q) H'
def spSize : Sp := fun vs H Q _ => ∃ (p : Addr) (a : Act), vs = [.ref p] ∧ ActAt H p a ∧ Q (.int a.note.sum) H
def spSeen : Sp := fun vs H Q _ => ∃ (p m : Addr) (a : Act) (o k : Int), vs = [.ref p, .ref m] ∧ ActAt H p a ∧ H m = some (.tup [.int o, .int k]) ∧ Q (.bl (a.seen o k)) H
end FR
namespace FR
open PySem PySem.Spec PyProof.Rows L2
theorem zipWith_nonneg : ∀ {r s : List Int}, (∀ x ∈ r, 0 ≤ x) → (∀ x ∈ s, 0 ≤ x) → ∀ x ∈ List.zipWith max r s, 0 ≤ x
  | [], _, _, _, x, h => by simp at h
  | _ :: _, [], _, _, x, h => by simp at h
  | a :: r, b :: s, hr, hs, x, h => by
    rw [List.zipWith_cons_cons, List.mem_cons] at h
    rcases h with rfl | h
    · have := hr a (List.mem_cons_self ..)
      omega
    · exact zipWith_nonneg (fun y m => hr y (List.mem_cons_of_mem _ m)) (fun y m => hs y (List.mem_cons_of_mem _ m)) x h
theorem Wd.nonneg {many : Nat} {acts : List Act} {known : List (List Int)} (h : Wd many acts known) : ∀ r ∈ known, ∀ x ∈ r, 0 ≤ x := by
  induction h with
  | nil =>
    intro r m x mx
    rw [(List.mem_replicate.mp m).2] at mx
    rw [(List.mem_replicate.mp mx).2]
    exact Int.le_refl 0
  | @step acts known i row row' c wt w hi hr hc ok ih =>
    have h' : ∀ x ∈ row', 0 ≤ x := by
      rcases hr with rfl | ⟨j, ro, hj, rfl⟩
      · exact ih _ (List.mem_of_getElem? hi)
      · exact zipWith_nonneg (ih _ (List.mem_of_getElem? hi)) (ih _ (List.mem_of_getElem? hj))
    intro r m x mx
    rcases List.mem_or_eq_of_mem_set m with m | rfl
    · exact ih r m x mx
    · rcases List.mem_or_eq_of_mem_set mx with mx | rfl
      · exact h' x mx
      · have := h' c (List.mem_of_getElem? hc)
        omega
/-- what is plain of every deed of a world -/
theorem Wd.plain {many : Nat} {acts : List Act} {known : List (List Int)} (h : Wd many acts known) : ∀ a ∈ acts, a.note.length = many ∧ (∀ x ∈ a.note, 0 ≤ x) ∧ a.what.Fit := by
  induction h with
  | nil => intro a m; cases m
  | @step acts known i row row' c wt w hi hr hc ok ih =>
    intro a m
    rcases List.mem_append.mp m with m | m
    · exact ih a m
    · rw [List.mem_singleton.mp m]
      have hl := w.lens.2
      have hn := w.nonneg
      refine ⟨?_, ?_, What.Ok.fit ok⟩
      · rcases hr with rfl | ⟨j, ro, hj, rfl⟩
        · exact hl _ (List.mem_of_getElem? hi)
        · show (List.zipWith max row ro).length = many
          rw [List.length_zipWith, hl _ (List.mem_of_getElem? hi), hl _ (List.mem_of_getElem? hj), Nat.min_self]
      · rcases hr with rfl | ⟨j, ro, hj, rfl⟩
        · exact hn _ (List.mem_of_getElem? hi)
        · exact zipWith_nonneg (hn _ (List.mem_of_getElem? hi)) (hn _ (List.mem_of_getElem? hj))
theorem cut_take (xs : List V) (k : Nat) : cutV xs none (some (k : Int)) = xs.take k := by
  unfold cutV
  rw [HT.sIx_none, HT.sIx_nat, List.drop_zero, Nat.sub_zero]
  by_cases h : k ≤ xs.length
  · rw [Nat.min_eq_left h]
  · rw [Nat.min_eq_right (by omega), List.take_length, List.take_of_length_le (by omega)]
def spLaw (K : PySem.W.Frag) : Sp := fun vs H Q _ => ∃ (a : Addr) (ns : List Int), vs = [.ref a] ∧ SqL K H a (ns.map V.int) ∧ ns.length ≤ 63 ∧ ∀ H', Q (.bl true) H'
end FR

namespace FR
open PySem PySem.Spec PyProof.Rows L2
def top (i : Nat) : Stmt := PySem.Challenge.pw_firmroll_k51_deeds_read.main.body.getD i (.Pass ⟨0, 0, 0, 0⟩)
abbrev sTray : Stmt := top 16
abbrev sDraw : Stmt := top 17
theorem m61 : (0 : Int) < 2 ^ Int.toNat 61 - 1 := by decide
theorem mod61 (z : Int) : 0 ≤ z % (2 ^ Int.toNat 61 - 1) ∧ z % (2 ^ Int.toNat 61 - 1) < 2 ^ 61 :=
  ⟨Int.emod_nonneg _ (by decide), Int.lt_of_lt_of_le (Int.emod_lt_of_pos _ m61) (by decide)⟩
section
variable {P : Program} {w : World} {K : PySem.W.Frag} {mg : Str → Option Value} {base : Heap}
theorem scTray : FnScope ["script", "fold", "great", "cell", "much"] ["script"] (defScope sTray) := ⟨rfl, rfl, rfl, by decide +kernel, rfl, by decide +kernel, by decide +kernel⟩
theorem ok_tray {f : Addr} {fd : FuncData} {k : Nat} (F : Fun K "_law_tray" "_law_tray" sTray f fd) (mx : mg "max" = none) : FnOk P w K mg base CX0 (k + 1) f fd ["script"] (spTray K) := by
  refine F.ok scTray (fun vs H Q E h => ?_) (fun cdv A outer s H vs Q E hr h => ?_)
  · obtain ⟨a, ns, rfl, _⟩ := h
    rfl
  obtain ⟨a, ns, rfl, hS, hl, q⟩ := h
  refine ⟨_, pss_cons (ps_set (i := 1) scTray.nd rfl (.inl rfl) pe_int) (pss_cons (ps_set (i := 2) scTray.nd rfl (.inl rfl) (pe_lst pa_nil))
    (pss_cons (ps_for PassesOwn.never rfl (pi_list (pv 0)) (pg_name (i := 3) scTray.nd rfl (.inl rfl))
      (pss_cons (ps_set (i := 1) scTray.nd rfl (.inl rfl) (pe_op op_mod (pe_op op_add (pe_op op_mul (pv 1) pe_int) (pv 3)) (pe_op op_sub (pe_op op_pow pe_int pe_int) pe_int)))
      (pss_cons (ps_set (i := 4) scTray.nd rfl (.inl rfl) (pe_callB (call_max2 rfl) (by rfl) mx (by decide +kernel) (pa_cons (pv 3) (pa_cons (pe_op op_sub pe_int (pv 3)) pa_nil))))
      (pss_one (ps_if (pt_cmpR op_ge (pv 4) (pe_op op_pow pe_int pe_int) (nomark _))
        (pss_one (ps_expr (pe_bm PySem.F.plainAttrs_list PySem.F.slot_list_append PySem.F.type_list_append mt_append (pv 2) (pa_cons (pe_op op_sub (pv 4) (pe_op op_pow pe_int pe_int)) pa_nil)))) pss_nil)))))
    (pss_one (ps_ret (pe_lst (pa_cons (pv 2) (pa_cons pe_int (pa_cons (pv 1) (pa_cons pe_int pa_nil))))))))), ?_⟩
  refine ⟨Nat.zero_le _, fun g ng => ?_⟩
  refine ⟨_, rfl, a, rfl, ⟨_, (same_new ng).seq hS⟩, for_list (K := K) (a := a) (xs := ns.map V.int) (fun i σ H' => ∃ (fo : Int) (gs : List Int) (v3 v4 : Option V), σ = [some (.ref a), some (.int fo), some (.ref g), v3, v4] ∧ Same H H' ∧ H' g = some (.lst (gs.map V.int)) ∧ gs.length ≤ i ∧ 0 ≤ fo ∧ fo < 2 ^ 61)
      ⟨_, [], none, none, rfl, same_new ng, upd_same, Nat.le_refl _, by decide, by decide⟩ (fun i σ H' _ ⟨_, _, _, _, _, s, _⟩ => s.seq hS) ?_ ?_⟩
  · rintro i y σ H' hi ⟨fo, gs, v3, v4, rfl, s1, hg, hgl, hf0, hf1⟩
    have hi63 : i < ns.length := by
      have q := (List.getElem?_eq_some_iff.mp hi).1
      rw [List.length_map] at q
      exact q
    obtain ⟨z, hz, rfl⟩ := map_int_at hi
    refine ⟨_, rfl, _, _, rfl, rfl, .inr ⟨by decide, by decide⟩, _, rfl, _, _, rfl, rfl, _, _, rfl, rfl, ⟨by decide, by decide, by decide⟩, _, _, rfl, rfl, _, _, rfl, rfl, m61, ?_⟩
    refine ⟨_, rfl, _, rfl, _, _, rfl, rfl, _, _, rfl, ?_⟩
    refine ⟨_, rfl, _, _, rfl, rfl, ⟨by decide, by decide, by decide⟩, _, _, rfl, rfl, _, rfl, ite2 (fun c => ?_) (fun c => ?_)⟩
    · refine ⟨_, rfl, .inl ⟨rfl, _, SqL.of hg⟩, _, rfl, _, _, rfl, rfl, ⟨by decide, by decide, by decide⟩, _, _, rfl, rfl, _, _, _, rfl, rfl, hg, ?_, ?_⟩
      · rw [List.length_map]
        exact small1000 (by omega)
      · refine ⟨_, gs ++ [(if 0 - z > z then 0 - z else z) - 10 ^ Int.toNat 18], _, _, rfl, fun b o e => ?_, ?_, ?_, (mod61 _).1, (mod61 _).2⟩
        · rw [upd_ne (ne_of_none e ng)]
          exact s1 _ _ e
        · rw [upd_same, List.map_append]
          rfl
        · rw [List.length_append, List.length_singleton]
          omega
    · exact ⟨_, gs, _, _, rfl, s1, hg, by omega, (mod61 _).1, (mod61 _).2⟩
  · rintro σ H' ⟨fo, gs, v3, v4, rfl, s1, hg, hgl, hf0, hf1⟩
    refine ⟨_, rfl, _, rfl, (by show 4 ≤ sizeLine; decide), fun t nt => ?_⟩
    refine q t g _ (s1.trans (same_new nt)) (s1.free nt) ng ⟨gs, 0, fo, 0, upd_same, ?_, hf0, hf1, by decide, by decide⟩
    exact upd_at hg nt

theorem scDraw : FnScope ["tray", "many", "found", "mixed"] ["tray", "many"] (defScope sDraw) := ⟨rfl, rfl, rfl, by decide +kernel, rfl, by decide +kernel, by decide +kernel⟩
theorem ok_draw {f : Addr} {fd : FuncData} {k : Nat} (F : Fun K "_law_draw" "_law_draw" sDraw f fd) : FnOk P w K mg base CX0 (k + 1) f fd ["tray", "many"] spDraw := by
  refine F.ok scDraw (fun vs H Q E h => ?_) (fun cdv A outer s H vs Q E hr h => ?_)
  · obtain ⟨t, g, N, many, rfl, _⟩ := h
    rfl
  obtain ⟨t, g, N, many, rfl, T, hN, hm0, hm1, q⟩ := h
  refine ⟨_, C8.pss_cut (ps_while PassesOwn.never (PW.pt (pw_and (pt_cmpR op_lt (pe_ix ix_list (pv 0) pe_int (fun _ _ => rfl)) pe_int (nomark _)) (pw_and1 (pt_cmpR (op_neD hr.units) (pe_ix ix_list (pv 0) pe_int (fun _ _ => rfl)) (pe_lst pa_nil) (nomark _)))))
      (pss_one (ps_asg (pe_bm PySem.F.plainAttrs_list PySem.F.slot_list_pop PySem.F.type_list_pop mt_popAt (pe_ix ix_list (pv 0) pe_int (fun _ _ => rfl)) (pa_cons pe_int pa_nil)) (pg_sub (pv 0) pe_int set_list))))
    (pss_cons (ps_if (pt_cmpR op_ge (pe_ix ix_list (pv 0) pe_int (fun _ _ => rfl)) pe_int (nomark _))
      (pss_cons (ps_set (i := 2) scDraw.nd rfl (.inl rfl) (pe_op op_mod (pe_ix ix_list (pv 0) pe_int (fun _ _ => rfl)) (pv 1)))
      (pss_cons (ps_asg (pe_op op_fdiv (pe_ix ix_list (pv 0) pe_int (fun _ _ => rfl)) (pv 1)) (pg_sub (pv 0) pe_int set_list))
      (pss_one (ps_ret (pv 2))))) pss_nil)
    (pss_cons (ps_asg (pe_op op_add (pe_ix ix_list (pv 0) pe_int (fun _ _ => rfl)) pe_int) (pg_sub (pv 0) pe_int set_list))
    (pss_cons (ps_set (i := 3) scDraw.nd rfl (.inl rfl) (pe_op op_mod
        (pe_op op_add (pe_op op_mul (pe_op op_add (pe_ix ix_list (pv 0) pe_int (fun _ _ => rfl)) pe_int) (pe_op op_pow (pe_op op_add (pe_ix ix_list (pv 0) pe_int (fun _ _ => rfl)) pe_int) pe_int)) (pe_op op_mul pe_int (pe_ix ix_list (pv 0) pe_int (fun _ _ => rfl))))
        (pe_op op_sub (pe_op op_pow pe_int pe_int) pe_int)))
    (pss_one (ps_ret (pe_op op_mod (pe_op op_fdiv (pe_op op_mod (pe_op op_pow (pv 3) pe_int) (pe_op op_add (pe_op op_pow pe_int pe_int) pe_int)) pe_int) (pv 1))))))), ?_⟩
  obtain ⟨gs0, x0, fo, n, e1, e2, hf0, hf1, hn0, hn1⟩ := T.ex
  have gt : g ≠ t := by
    refine ne_of e2 e1 fun q => ?_
    have q2 := congrArg (fun o : HO => match o with | .lst (V.ref _ :: _) => true | _ => false) q
    cases gs0 <;> simp at q2
  -- what stands behind the while
  refine ⟨fun σ H' => σ = [some (.ref t), some (.int many), none, none] ∧ ∃ (gs : List Int) (x : Int), Kp [t, g] H H' ∧ H' t = some (.lst [.ref g, .int x, .int fo, .int n]) ∧ H' g = some (.lst (gs.map V.int)), ?_, ?_⟩
  · refine ⟨fun m σ H' => σ = [some (.ref t), some (.int many), none, none] ∧ ∃ (gs : List Int) (x : Int), m = gs.length ∧ Kp [t, g] H H' ∧ H' t = some (.lst [.ref g, .int x, .int fo, .int n]) ∧ H' g = some (.lst (gs.map V.int)),
      ⟨_, rfl, gs0, x0, rfl, .refl _ _, e1, e2⟩, ?_⟩
    rintro m σ H1 ⟨rfl, gs, x, rfl, kp, h1, h2⟩
    refine ⟨_, rfl, t, _, _, _, rfl, rfl, SqL.of h1, atI_nat (j := 1) rfl, _, _, rfl, rfl, _, rfl, ite2 (fun c => ?_) (fun c => ?_)⟩
    · refine ⟨_, rfl, t, _, _, _, rfl, rfl, SqL.of h1, atI_nat (j := 0) rfl, Nat.zero_le _, fun p np => ?_⟩
      have h1' : upd H1 p (.lst []) t = _ := upd_at h1 np
      have h2' : upd H1 p (.lst []) g = _ := upd_at h2 np
      have kp' : Kp [t, g] H (upd H1 p (.lst [])) := kp.trans (.new np)
      refine ⟨.list (gs.map PyData.int), .list [], .lst (SqL.of h2') (dpInts gs), .lst (SqL.of upd_same) .nil, PySem.W.shaped_ints gs, by decide +kernel, _, rfl, ?_⟩
      rw [eqv_ints_nil]
      cases gs with
      | nil => exact iteF ⟨rfl, [], x, kp', h1', h2'⟩
      | cons y r =>
        refine iteT ⟨fun σ H' => σ = [some (.ref t), some (.int many), none, none] ∧ ∃ (x : Int), Kp [t, g] H H' ∧ H' t = some (.lst [.ref g, .int x, .int fo, .int n]) ∧ H' g = some (.lst (r.map V.int)), ?_, ?_⟩
        · rintro σ' H' ⟨e, x', k1, k2, k3⟩
          exact ⟨_, Nat.lt_succ_self _, e, r, x', rfl, k1, k2, k3⟩
        · have h3 : upd (upd H1 p (.lst [])) g (.lst (r.map V.int)) t = _ := (upd_ne gt.symm).trans h1'
          refine ⟨_, rfl, t, _, _, _, rfl, rfl, SqL.of h1', atI_nat (j := 0) rfl, .inl ⟨rfl, _, SqL.of h2'⟩, g, _, 0, 0, _, rfl, rfl, h2', by decide, by decide, by simp [seqIndex?], rfl, ?_⟩
          refine ⟨_, rfl, t, _, 1, 1, rfl, rfl, h3, rfl, rfl, y, ?_, upd_same, ?_⟩
          · exact (kp'.trans (.set h2' (by simp))).trans (.set h3 (by simp))
          · rw [upd_ne gt]
            exact upd_same
    · exact iteF ⟨rfl, gs, x, kp, h1, h2⟩
  · rintro σ H1 ⟨rfl, gs, x, kp, h1, h2⟩
    refine ⟨_, rfl, t, _, _, _, rfl, rfl, SqL.of h1, atI_nat (j := 1) rfl, _, _, rfl, rfl, _, rfl, ite2 (fun c => ?_) (fun c => ?_)⟩
    · refine ⟨_, rfl, t, _, _, _, rfl, rfl, SqL.of h1, atI_nat (j := 1) rfl, _, rfl, _, _, rfl, rfl, hm0, ?_⟩
      refine ⟨_, rfl, t, _, _, _, rfl, rfl, SqL.of h1, atI_nat (j := 1) rfl, _, rfl, _, _, rfl, rfl, ⟨hm0, hm1⟩, ?_⟩
      refine ⟨_, rfl, t, _, 1, 1, rfl, rfl, h1, rfl, _, rfl, ?_⟩
      refine q _ _ (Int.emod_nonneg _ (by omega)) (Int.emod_lt_of_pos _ hm0) ⟨gs, _, fo, n, upd_same, (upd_ne gt).trans h2, hf0, hf1, hn0, by omega⟩ (kp.trans (.set h1 (by simp)))
    · refine ⟨_, rfl, t, _, _, _, rfl, rfl, SqL.of h1, atI_nat (j := 3) rfl, _, _, rfl, rfl, _, rfl, t, _, 3, 3, rfl, rfl, h1, rfl, ?_⟩
      have h3 : upd H1 t (.lst [.ref g, .int x, .int fo, .int (n + 1)]) t = _ := upd_same
      have b1 : n ≤ 2 ^ 60 := by omega
      refine ⟨_, rfl, t, _, _, _, rfl, rfl, SqL.of h3, atI_nat (j := 2) rfl, _, _, rfl, rfl, _, rfl, t, _, _, _, rfl, rfl, SqL.of h3, atI_nat (j := 3) rfl, _, _, rfl, rfl, _, _, rfl, rfl, ⟨by decide, by decide, by omega⟩, _, _, rfl, rfl, .inl ⟨by omega, by omega⟩,
        _, rfl, t, _, _, _, rfl, rfl, SqL.of h3, atI_nat (j := 3) rfl, _, _, rfl, rfl, .inl ⟨by decide, by decide⟩, _, _, rfl, rfl, _, _, rfl, rfl, ⟨by decide, by decide, by decide⟩, _, _, rfl, rfl, _, _, rfl, rfl, m61, ?_⟩
      generalize hmix : ((fo + 5) * (n + 1 + 2) ^ Int.toNat 3 + 1000003 * (n + 1)) % (2 ^ Int.toNat 61 - 1) = mx
      have bm : 0 ≤ mx ∧ mx < 2 ^ 61 := hmix ▸ mod61 _
      refine ⟨_, rfl, _, _, rfl, rfl, ⟨by decide, by decide, ?_⟩, _, _, rfl, rfl, ⟨by decide, by decide, by decide⟩, _, _, rfl, rfl, _, _, rfl, rfl, (by show (0 : Int) < 10 ^ Int.toNat 18 + 9; decide), _, _, rfl, rfl, ⟨by decide, by decide⟩, _, rfl, _, _, rfl, rfl, hm0, ?_⟩
      · subst hmix
        show (((fo + 5) * (n + 1 + 2) ^ Int.toNat 3 + 1000003 * (n + 1)) % (2 ^ Int.toNat 61 - 1)).natAbs < 2 ^ 64
        omega
      · exact q _ _ (Int.emod_nonneg _ (by omega)) (Int.emod_lt_of_pos _ hm0) ⟨gs, x, fo, n + 1, upd_same, (upd_ne gt).trans h2, hf0, hf1, by omega, by omega⟩ (kp.trans (.set h1 (by simp)))
end
end FR

namespace FR
open PySem PySem.Spec PyProof.Rows L2
abbrev sWord : Stmt := top 19
section
variable {P : Program} {w : World} {K : PySem.W.Frag} {mg : Str → Option Value} {base : Heap}
structure DrawC (P : Program) (w : World) (K : PySem.W.Frag) (mg : Str → Option Value) (base : Heap) (j : Nat) (f : Addr) (fd : FuncData) : Prop where
  ok : FnOk P w K mg base CX0 j f fd ["tray", "many"] spDraw
  m : mg "_law_draw" = some (.ref f)
  kp : PySem.W.keepIn K (.ref f) = true
  b : Binds K fd ["tray", "many"] []
theorem scWord : FnScope ["tray", "some", "letters", "k"] ["tray"] (defScope sWord) := ⟨rfl, rfl, rfl, by decide +kernel, rfl, by decide +kernel, by decide +kernel⟩
theorem ok_word {f fD : Addr} {fd fdD : FuncData} {k : Nat} (F : Fun K "_law_word" "_law_word" sWord f fd) (D : DrawC P w K mg base k fD fdD) (mr : mg "range" = none) : FnOk P w K mg base CX0 (k + 1) f fd ["tray"] spWord := by
  refine F.ok scWord (fun vs H Q E h => ?_) (fun cdv A outer s H vs Q E hr h => ?_)
  · obtain ⟨t, g, N, rfl, _⟩ := h
    rfl
  obtain ⟨t, g, N, rfl, T, hN, q⟩ := h
  refine ⟨_, pss_cons (ps_set (i := 1) scWord.nd rfl (.inl rfl) (pe_lst (pa_cons pe_str (pa_cons pe_str (pa_cons pe_str (pa_cons pe_str (pa_cons pe_str (pa_cons pe_str (pa_cons pe_str (pa_cons pe_str pa_nil))))))))))
    (pss_cons (ps_if (pt_cmpR op_gt (pe_call D.ok hr (by rfl) D.m D.kp D.b .nil pass0 (pa_cons (pv 0) (pa_cons pe_int pa_nil))) pe_int (nomark _))
      (pss_one (ps_ret (pe_ix ix_list (pv 1) (pe_call D.ok hr (by rfl) D.m D.kp D.b .nil pass0 (pa_cons (pv 0) (pa_cons pe_int pa_nil))) (fun _ _ => rfl)))) pss_nil)
    (pss_cons (ps_set (i := 2) scWord.nd rfl (.inr rfl) pe_str)
    (pss_one (ps_ret (pe_join pe_str (pe_lc (own := [("k", 3)]) (g := gName 3) (tt := tYes) rfl scWord.nd (pi_range1 (by rfl) mr (pa_cons (pe_op op_add pe_int (pe_call D.ok hr (by rfl) D.m D.kp D.b .nil pass0 (pa_cons (pv 0) (pa_cons pe_int pa_nil)))) pa_nil))
      (blkOk_by (N := ["tray", "some", "letters", "k"]) (sc := defScope sWord) (by decide +kernel)) (fun _ _ _ _ _ => pg_name (i := 3) scWord.nd rfl (Or.inl rfl)) (fun _ _ _ _ _ => pts_nil)
      (fun _ _ _ _ _ => pe_ix ix_str (pv 2) (pe_call D.ok hr (by rfl) D.m D.kp D.b .nil pass0 (pa_cons (pv 0) (pa_cons pe_int pa_nil))) (fun _ _ => rfl)))))))), ?_⟩
  refine ⟨(by show 8 ≤ sizeLine; decide), fun sm nsm => ?_⟩
  have T1 := T.same (same_new (o := .lst (someWords.map V.str)) nsm)
  have nS := T.neT nsm
  refine ⟨_, rfl, t, g, N, 3, rfl, T1, by omega, by decide, by decide, fun H2 k2 hk0 hk1 T2 kp2 => ?_⟩
  have hs2 : H2 sm = some (.lst (someWords.map V.str)) := kp2.lst upd_same nS
  refine ⟨_, _, rfl, rfl, _, rfl, ite2 (fun c => ?_) (fun c => ?_)⟩
  · refine ⟨_, rfl, _, rfl, t, g, N + 1, 8, rfl, T2, by omega, by decide, by decide, fun H3 k3 h30 h31 T3 kp3 => ?_⟩
    obtain ⟨s, hs, ok⟩ := some_at h30 h31
    refine ⟨sm, _, _, _, rfl, rfl, SqL.of (kp3.lst hs2 nS), hs, ?_⟩
    exact q _ s ok (T3.mono (by omega)) (((Kp.new nsm).trans kp2).trans kp3)
  · refine ⟨⟨_, rfl⟩, _, rfl, t, g, N + 1, 8, rfl, T2, by omega, by decide, by decide, fun H3 k3 h30 h31 T3 kp3 => ?_⟩
    have kH : Kp [t, g] H H3 := ((Kp.new nsm).trans kp2).trans kp3
    refine ⟨_, _, rfl, rfl, 1 + k3, rfl, by omega, by omega, fun D nD => ?_⟩
    have nDH : H D = none := kH.dm D nD
    refine lc_range (lo := 0) (n := (1 + k3).toNat) (fun i H' => ∃ l : List Nat, H' D = some (.lst (l.map fun c => V.str ⟨#[c]⟩)) ∧ l.length = i ∧ (∀ c ∈ l, 97 ≤ c ∧ c ≤ 122) ∧ TrayAt H' t g (N + 2 + i) ∧ Kp [t, g] H H')
      ⟨[], upd_same, rfl, by simp, (T3.same (same_new nD)).mono (by omega), kH.over nDH⟩ ?_ ?_
    · rintro i H4 hi ⟨l, hD, hl, hc, T4, kp4⟩
      refine ⟨rfl, _, rfl, _, rfl, t, g, N + 2 + i, 26, rfl, T4, by omega, by decide, by decide, fun H5 k5 h50 h51 T5 kp5 => ?_⟩
      have nDt : D ∉ [t, g] := T.neT nDH
      refine ⟨_, k5, _, rfl, rfl, abc_len, abc_at h50 h51, _, kp5.lst hD nDt, ?_, l ++ [97 + k5.toNat], ?_, ?_, ?_, ?_, (kp4.trans kp5).over nDH⟩
      · rw [List.length_map]
        exact small1000 (by omega)
      · rw [upd_same, List.map_append]
        rfl
      · rw [List.length_append, hl]
        rfl
      · intro c m
        rcases List.mem_append.mp m with m | m
        · exact hc c m
        · rw [List.mem_singleton.mp m]
          omega
      · exact (T5.over nDt).mono (by omega)
    · rintro H4 ⟨l, hD, hl, hc, T4, kp4⟩
      have hl8 : l.length ≤ 8 := by omega
      refine ⟨Str.empty, D, l.map fun c => (⟨#[c]⟩ : Str), rfl, rfl, .inl (SqL.of (by rw [hD, List.map_map]; rfl)), ?_, ?_⟩
      · rw [ones_sum, List.length_map]
        show l.length + l.length * 0 ≤ 16777216
        omega
      · refine q _ _ ?_ (T4.mono (by omega)) kp4
        unfold WordOk
        rw [join_one]
        exact ⟨by omega, hl8, hc⟩
end
end FR

namespace FR
open PySem PySem.Spec PyProof.Rows L2
abbrev sWhat : Stmt := top 20
section
variable {P : Program} {w : World} {K : PySem.W.Frag} {mg : Str → Option Value} {base : Heap}
/-- a def that stands at a name of the module -/
structure Cal (P : Program) (w : World) (K : PySem.W.Frag) (mg : Str → Option Value) (base : Heap) (j : Nat) (x : Str) (ps : List Str) (sp : Sp) (f : Addr) (fd : FuncData) : Prop where
  ok : FnOk P w K mg base CX0 j f fd ps sp
  m : mg x = some (.ref f)
  kp : PySem.W.keepIn K (.ref f) = true
  b : Binds K fd ps []
theorem Cal.mono {i j : Nat} {x : Str} {ps : List Str} {sp : Sp} {f : Addr} {fd : FuncData} (c : Cal P w K mg base i x ps sp f fd) (h : i ≤ j) : Cal P w K mg base j x ps sp f fd := ⟨c.ok.mono h, c.m, c.kp, c.b⟩
theorem scWhat : FnScope ["tray", "who", "many", "mights", "lot", "might", "right", "whom"] ["tray", "who", "many", "mights"] (defScope sWhat) := ⟨rfl, rfl, rfl, by decide +kernel, rfl, by decide +kernel, by decide +kernel⟩
theorem ok_what {f fD fW : Addr} {fd fdD fdW : FuncData} {k : Nat} (F : Fun K "_law_what" "_law_what" sWhat f fd) (D : DrawC P w K mg base k fD fdD) (W : Cal P w K mg base k "_law_word" ["tray"] spWord fW fdW) (ml : mg "len" = none) : FnOk P w K mg base CX0 (k + 1) f fd ["tray", "who", "many", "mights"] spWhat := by
  refine F.ok scWhat (fun vs H Q E h => ?_) (fun cdv A outer s H vs Q E hr h => ?_)
  · obtain ⟨t, g, m, N, who, many, ms, rfl, _⟩ := h
    rfl
  obtain ⟨t, g, m, N, who, many, ms, rfl, T, hN, hw0, hw1, hm6, hm, nm, ne, ml3, mok, q⟩ := h
  refine ⟨_, pss_cons (ps_set (i := 4) scWhat.nd rfl (.inl rfl) (pe_call D.ok hr (by rfl) D.m D.kp D.b .nil pass0 (pa_cons (pv 0) (pa_cons pe_int pa_nil))))
    (pss_cons (ps_set (i := 5) scWhat.nd rfl (.inl rfl) (pe_ix ix_list (pv 3) (pe_call D.ok hr (by rfl) D.m D.kp D.b .nil pass0 (pa_cons (pv 0) (pa_cons (pe_callB call_len_seq (by rfl) ml PySem.boot_len (pa_cons (pv 3) pa_nil)) pa_nil))) (fun _ _ => rfl)))
    (C8.pss_cut (ps_if (PW.pt (pw_and (pt_cmpR op_lt (pv 4) pe_int (nomark _)) (pw_and1 (pt_cmpR op_lt (pe_op op_add (pv 1) pe_int) (pv 2) (nomark _)))))
      (pss_cons (ps_set (i := 6) scWhat.nd rfl (.inl rfl) (pe_ix ix_list (pe_lst (pa_cons pe_str (pa_cons pe_str pa_nil))) (pe_call D.ok hr (by rfl) D.m D.kp D.b .nil pass0 (pa_cons (pv 0) (pa_cons pe_int pa_nil))) (fun _ _ => rfl)))
      (pss_cons (ps_set (i := 7) scWhat.nd rfl (.inl rfl) (pe_op op_add (pe_op op_add (pv 1) pe_int) (pe_call D.ok hr (by rfl) D.m D.kp D.b .nil pass0 (pa_cons (pv 0) (pa_cons (pe_op op_sub (pe_op op_sub (pv 2) pe_int) (pv 1)) pa_nil)))))
      (pss_one (ps_ret (pe_tup (pa_cons (pe_ix ix_list (pe_lst (pa_cons pe_str (pa_cons pe_str (pa_cons pe_str (pa_cons pe_str pa_nil))))) (pv 4) (fun _ _ => rfl)) (pa_cons (pv 5) (pa_cons (pv 6) (pa_cons (pv 7) pa_nil))))))))) pss_nil)
    (pss_one (ps_ret (pe_tup (pa_cons pe_str (pa_cons (pv 5) (pa_cons (pe_call W.ok hr (by rfl) W.m W.kp W.b .nil pass0 (pa_cons (pv 0) pa_nil)) pa_nil)))))))), ?_⟩
  have l0 : 0 < ms.length := Nat.pos_of_ne_zero fun e => ne (List.length_eq_zero_iff.mp e)
  refine ⟨_, rfl, t, g, N, 6, rfl, T, by omega, by decide, by decide, fun H1 lot hl0 hl6 T1 k1 => ?_⟩
  have hm1 := k1.lst hm nm
  refine ⟨_, rfl, _, rfl, _, rfl, m, _, rfl, .inl (SqL.of hm1), t, g, N + 1, (ms.length : Int), (by rw [List.length_map]; rfl), T1, by omega, by omega, by omega, fun H2 j hj0 hj1 T2 k2 => ?_⟩
  have hm2 := k2.lst hm1 nm
  obtain ⟨mt, mm, hmt⟩ := strs_at (ms := ms) hj0 hj1
  have kH2 := k1.trans k2
  refine ⟨m, _, _, _, rfl, rfl, SqL.of hm2, hmt, ?_⟩
  refine ⟨fun σ H' => σ = [some (.ref t), some (.int who), some (.int many), some (.ref m), some (.int lot), some (.str mt), none, none] ∧ H' = H2, ?_, ?_⟩
  · refine ⟨_, rfl, _, _, rfl, rfl, _, rfl, ite2 (fun c => ?_) (fun c => iteF ⟨rfl, rfl⟩)⟩
    have hl4 : lot < 4 := of_decide_eq_true c
    refine ⟨_, rfl, _, _, rfl, rfl, _, rfl, _, _, rfl, rfl, _, rfl, ite2 (fun c2 => ?_) (fun c2 => ⟨rfl, rfl⟩)⟩
    have hwm : who + 1 < many := of_decide_eq_true c2
    refine ⟨(by show 2 ≤ sizeLine; decide), fun p np => ?_⟩
    have T2' := T2.same (same_new (o := .lst [.str "use", .str "lead"]) np)
    refine ⟨_, rfl, t, g, N + 2, 2, rfl, T2', by omega, by decide, by decide, fun H3 k3 h30 h31 T3 kp3 => ?_⟩
    obtain ⟨ki, hki, eki⟩ := kind_at h30 h31
    refine ⟨p, _, _, _, rfl, rfl, SqL.of (kp3.lst upd_same (T2.neT np)), eki, ?_⟩
    refine ⟨_, rfl, _, _, rfl, rfl, _, rfl, _, rfl, _, _, rfl, rfl, _, rfl, _, _, rfl, rfl, t, g, N + 3, many - 1 - who, rfl, T3, by omega, by omega, by omega, fun H4 k4 h40 h41 T4 kp4 => ?_⟩
    refine ⟨_, _, rfl, rfl, ?_⟩
    refine ⟨(by show 4 ≤ sizeLine; decide), fun p2 np2 => ?_⟩
    obtain ⟨de, hde, ede⟩ := deal_at hl0 hl4
    refine ⟨_, rfl, p2, _, _, _, rfl, rfl, SqL.of upd_same, ede, _, rfl, _, rfl, _, rfl, (by show 4 ≤ sizeLine; decide), fun p3 np3 => ?_⟩
    have kH : Kp [t, g] H (upd H4 p2 (.lst [.str "give", .str "give", .str "give", .str "take"])) := (((kH2.trans (.new np)).trans kp3).trans kp4).trans (.new np2)
    have T5 := (T4.same (same_new np2)).same (same_new (o := .tup [.str de, .str mt, .str ki, .int (who + 1 + k4)]) np3)
    rcases hde with rfl | rfl
    · exact q _ p3 (.give mt ki (who + 1 + k4)) (kH.dm _ np3) upd_same ⟨mok _ mm, hki, by omega, by omega⟩ (T5.mono (by omega)) (kH.trans (.new np3))
    · exact q _ p3 (.take mt ki (who + 1 + k4)) (kH.dm _ np3) upd_same ⟨mok _ mm, hki, by omega, by omega⟩ (T5.mono (by omega)) (kH.trans (.new np3))
  · rintro σ H' ⟨rfl, rfl⟩
    refine ⟨_, rfl, _, rfl, t, g, N + 2, rfl, T2, by omega, fun H3 s ok T3 kp3 => ?_⟩
    refine ⟨(by show 3 ≤ sizeLine; decide), fun p3 np3 => ?_⟩
    have kH := kH2.trans kp3
    exact q _ p3 (.use mt s) (kH.dm _ np3) upd_same ⟨mok _ mm, ok⟩ ((T3.same (same_new np3)).mono (by omega)) (kH.trans (.new np3))
end
end FR

namespace FR
open PySem PySem.Spec PyProof.Rows L2
abbrev sWorld : Stmt := top 21
abbrev sMost : Stmt := top 22
section
variable {P : Program} {w : World} {K : PySem.W.Frag} {mg : Str → Option Value} {base : Heap}
theorem scMost : FnScope ["tray"] ["tray"] (defScope sMost) := ⟨rfl, rfl, rfl, by decide +kernel, rfl, by decide +kernel, by decide +kernel⟩
theorem ok_most {f fD : Addr} {fd fdD : FuncData} {k : Nat} (F : Fun K "_law_most" "_law_most" sMost f fd) (D : DrawC P w K mg base k fD fdD) : FnOk P w K mg base CX0 (k + 1) f fd ["tray"] spMost := by
  refine F.ok scMost (fun vs H Q E h => ?_) (fun cdv A outer s H vs Q E hr h => ?_)
  · obtain ⟨t, g, N, rfl, _⟩ := h
    rfl
  obtain ⟨t, g, N, rfl, T, hN, q⟩ := h
  refine ⟨_, pss_one (ps_ret (pe_ix ix_list (pe_lst (pa_cons pe_int (pa_cons pe_int (pa_cons pe_int (pa_cons pe_int pa_nil))))) (pe_op op_fdiv (pe_call D.ok hr (by rfl) D.m D.kp D.b .nil pass0 (pa_cons (pv 0) (pa_cons pe_int pa_nil))) pe_int) (fun _ _ => rfl))), ?_⟩
  refine ⟨(by show 4 ≤ sizeLine; decide), fun p np => ?_⟩
  refine ⟨_, rfl, t, g, N, 16, rfl, T.same (same_new np), by omega, by decide, by decide, fun H1 k1 h0 h1 T1 kp1 => ?_⟩
  have kH := (Kp.new (o := .lst [.int 6, .int 15, .int 30, .int 110]) np).trans kp1
  have hp := kp1.lst upd_same (T.neT np)
  refine ⟨_, _, rfl, rfl, ⟨by decide, by decide⟩, p, _, _, .int (([6, 15, 30, 110] : List Int).getD (k1 / 5).toNat 0), rfl, rfl, SqL.of hp, ?_, ?_⟩
  · have hk : (k1 / 5).toNat < 4 := by omega
    refine at_of (j := (k1 / 5).toNat) (by omega) ?_
    have q : ∀ j : Fin 4, ([.int 6, .int 15, .int 30, .int 110] : List V)[j.val]? = some (.int (([6, 15, 30, 110] : List Int).getD j.val 0)) := by decide
    exact q ⟨_, hk⟩
  · have hk : (k1 / 5).toNat < 4 := by omega
    have b : ∀ j : Fin 4, 0 ≤ ([6, 15, 30, 110] : List Int).getD j.val 0 ∧ ([6, 15, 30, 110] : List Int).getD j.val 0 ≤ 110 := by decide
    exact q _ _ (b ⟨_, hk⟩).1 (b ⟨_, hk⟩).2 T1 kH

abbrev nWorld : List Str := ["tray", "most", "many", "mights", "known", "acts", "turn", "who", "other", "k", "one", "two"]
theorem scWorld : FnScope nWorld ["tray", "most"] (defScope sWorld) := ⟨rfl, rfl, rfl, by decide +kernel, rfl, by decide +kernel, by decide +kernel⟩
theorem ok_world {f fD fW fT : Addr} {fd fdD fdW fdT : FuncData} {k : Nat} (F : Fun K "_law_world" "_law_world" sWorld f fd) (D : DrawC P w K mg base k fD fdD) (W : Cal P w K mg base k "_law_word" ["tray"] spWord fW fdW)
    (T : Cal P w K mg base k "_law_what" ["tray", "who", "many", "mights"] spWhat fT fdT) (mr : mg "range" = none) (mx : mg "max" = none) (mz : mg "zip" = none) (mt : mg "tuple" = none) : FnOk P w K mg base CX0 (k + 1) f fd ["tray", "most"] spWorld := by
  refine F.ok scWorld (fun vs H Q E h => ?_) (fun cdv A outer s H vs Q E hr h => ?_)
  · obtain ⟨t, g, N, most, rfl, _⟩ := h
    rfl
  obtain ⟨t, g, N, most, rfl, TA, hm0, hm1, hN, q⟩ := h
  refine ⟨_, pss_cons (ps_set (i := 2) scWorld.nd rfl (.inr rfl) (pe_ix ix_list (pe_lst (pa_cons (pe_op op_add pe_int (pe_call D.ok hr (by rfl) D.m D.kp D.b .nil pass0 (pa_cons (pv 0) (pa_cons pe_int pa_nil)))) (pa_cons (pe_op op_add pe_int (pe_call D.ok hr (by rfl) D.m D.kp D.b .nil pass0 (pa_cons (pv 0) (pa_cons pe_int pa_nil)))) (pa_cons pe_int (pa_cons pe_int pa_nil)))))
        (pe_call D.ok hr (by rfl) D.m D.kp D.b .nil pass0 (pa_cons (pv 0) (pa_cons pe_int pa_nil))) (fun _ _ => rfl)))
    (pss_cons (ps_setLc (i := 3) (own := [("k", 9)]) (g := gName 9) (tt := tYes) (by rfl) scWorld.nd rfl rfl (sw_true rfl rfl rfl (by decide +kernel)) (pi_range1 (by rfl) mr (pa_cons (pe_op op_add pe_int (pe_call D.ok hr (by rfl) D.m D.kp D.b .nil pass0 (pa_cons (pv 0) (pa_cons pe_int pa_nil)))) pa_nil))
        (blkOk_by (N := nWorld) (sc := defScope sWorld) (by decide +kernel)) (fun _ _ _ _ _ => pg_name (i := 9) scWorld.nd rfl (Or.inl rfl)) (fun _ _ _ _ _ => pts_nil)
        (fun _ _ _ _ _ => pe_call W.ok hr (by rfl) W.m W.kp W.b .nil pass0 (pa_cons (pv 0) pa_nil)))
    (pss_cons (ps_setLc (i := 4) (own := [("k", 9)]) (g := gName 9) (tt := tYes) (by rfl) scWorld.nd rfl rfl (sw_true rfl rfl rfl (by decide +kernel)) (pi_range1 (by rfl) mr (pa_cons (pv 2) pa_nil))
        (blkOk_by (N := nWorld) (sc := defScope sWorld) (by decide +kernel)) (fun _ _ _ _ _ => pg_name (i := 9) scWorld.nd rfl (Or.inl rfl)) (fun _ _ _ _ _ => pts_nil)
        (fun _ _ _ _ _ => pe_op op_rep (pe_lst (pa_cons pe_int pa_nil)) (pv 2)))
    (pss_cons (ps_set (i := 5) scWorld.nd rfl (.inl rfl) (pe_lst pa_nil))
    (pss_cons (ps_for PassesOwn.never rfl (pi_range1 (by rfl) mr (pa_cons (pe_call D.ok hr (by rfl) D.m D.kp D.b .nil pass0 (pa_cons (pv 0) (pa_cons (pe_op op_add (pv 1) pe_int) pa_nil))) pa_nil)) (pg_name (i := 6) scWorld.nd rfl (.inl rfl))
      (pss_cons (ps_set (i := 7) scWorld.nd rfl (.inl rfl) (pe_call D.ok hr (by rfl) D.m D.kp D.b .nil pass0 (pa_cons (pv 0) (pa_cons (pv 2) pa_nil))))
      (C8.pss_cut (ps_if (pt_cmpR op_gt (pe_call D.ok hr (by rfl) D.m D.kp D.b .nil pass0 (pa_cons (pv 0) (pa_cons pe_int pa_nil))) pe_int (nomark _))
          (pss_cons (ps_set (i := 8) scWorld.nd rfl (.inl rfl) (pe_call D.ok hr (by rfl) D.m D.kp D.b .nil pass0 (pa_cons (pv 0) (pa_cons (pv 2) pa_nil))))
          (pss_one (ps_asg (pe_lc (own := [("one", 10), ("two", 11)]) (g := gTup K 2 (gCons (gName 10) (gCons (gName 11) gNil))) (tt := tYes) rfl scWorld.nd
              (pi_zip (by rfl) mz (pa_cons (pe_ix ix_list (pv 4) (pv 7) (fun _ _ => rfl)) (pa_cons (pe_ix ix_list (pv 4) (pv 8) (fun _ _ => rfl)) pa_nil)))
              (blkOk_by (N := nWorld) (sc := defScope sWorld) (by decide +kernel)) (fun _ _ _ _ _ => pg_tup rfl (pgs_cons (pg_name (i := 10) scWorld.nd rfl (Or.inl rfl)) (pgs_cons (pg_name (i := 11) scWorld.nd rfl (Or.inl rfl)) pgs_nil))) (fun _ _ _ _ _ => pts_nil)
              (fun _ _ _ _ _ => pe_callB (call_max2 rfl) (by rfl) mx (by decide +kernel) (pa_cons (pv 10) (pa_cons (pv 11) pa_nil)))) (pg_sub (pv 4) (pv 7) set_list)))) pss_nil)
      (pss_cons (ps_expr (pe_bm PySem.F.plainAttrs_list PySem.F.slot_list_append PySem.F.type_list_append mt_append (pv 5) (pa_cons (pe_tup (pa_cons (pv 7) (pa_cons (pe_op op_add (pe_ix ix_list (pe_ix ix_list (pv 4) (pv 7) (fun _ _ => rfl)) (pv 7) (fun _ _ => rfl)) pe_int)
          (pa_cons (pe_callTy call_tuple_of (by rfl) mt (by decide +kernel) (pa_cons (pe_ix ix_list (pv 4) (pv 7) (fun _ _ => rfl)) pa_nil)) (pa_cons (pe_call T.ok hr (by rfl) T.m T.kp T.b .nil pass0 (pa_cons (pv 0) (pa_cons (pv 7) (pa_cons (pv 2) (pa_cons (pv 3) pa_nil))))) pa_nil))))) pa_nil)))
      (pss_one (ps_asg (pe_op op_add (pe_ix ix_list (pe_ix ix_list (pv 4) (pv 7) (fun _ _ => rfl)) (pv 7) (fun _ _ => rfl)) pe_int) (pg_sub (pe_ix ix_list (pv 4) (pv 7) (fun _ _ => rfl)) (pv 7) set_list)))))))
    (pss_one (ps_ret (pe_lst (pa_cons (pv 2) (pa_cons (pv 5) pa_nil))))))))), ?_⟩
  -- many
  refine ⟨_, rfl, t, g, N, 6, rfl, TA, by omega, by decide, by decide, fun H1 k1 h10 h11 T1 kp1 => ?_⟩
  refine ⟨_, _, rfl, rfl, _, rfl, t, g, N + 1, 5, rfl, T1, by omega, by decide, by decide, fun H2 k2 h20 h21 T2 kp2 => ?_⟩
  refine ⟨_, _, rfl, rfl, (by show 4 ≤ sizeLine; decide), fun p np => ?_⟩
  refine ⟨_, rfl, t, g, N + 2, 4, rfl, T2.same (same_new np), by omega, by decide, by decide, fun H3 k3 h30 h31 T3 kp3 => ?_⟩
  obtain ⟨many, emv, b1, b6⟩ : ∃ many : Nat, atI ([.int (1 + k1), .int (2 + k2), .int 3, .int 4] : List V) k3 = some (.int many) ∧ 1 ≤ many ∧ many ≤ 6 := by
    have e3 : k3 = 0 ∨ k3 = 1 ∨ k3 = 2 ∨ k3 = 3 := by omega
    rcases e3 with rfl | rfl | rfl | rfl
    · exact ⟨(1 + k1).toNat, by rw [Int.toNat_of_nonneg (by omega)]; rfl, by omega, by omega⟩
    · exact ⟨(2 + k2).toNat, by rw [Int.toNat_of_nonneg (by omega)]; rfl, by omega, by omega⟩
    · exact ⟨3, rfl, by omega, by omega⟩
    · exact ⟨4, rfl, by omega, by omega⟩
  refine ⟨p, _, _, _, rfl, rfl, SqL.of (kp3.lst upd_same (T2.neT np)), emv, ?_⟩
  have kH3 : Kp [t, g] H H3 := ((kp1.trans kp2).trans (.new np)).trans kp3
  -- mights
  refine ⟨_, rfl, t, g, N + 3, 3, rfl, T3, by omega, by decide, by decide, fun H4 k4 h40 h41 T4 kp4 => ?_⟩
  have kH4 := kH3.trans kp4
  refine ⟨_, _, rfl, rfl, 1 + k4, rfl, by omega, by omega, fun m nm => ?_⟩
  have nmH : H m = none := kH4.dm m nm
  have nmT : m ∉ [t, g] := TA.neT nmH
  refine lc_range (lo := 0) (n := (1 + k4).toNat) (fun i H' => ∃ ms : List Str, H' m = some (.lst (ms.map V.str)) ∧ ms.length = i ∧ (∀ s ∈ ms, WordOk s) ∧ TrayAt H' t g (N + 4 + 12 * i) ∧ Kp [t, g] H H')
    ⟨[], upd_same, rfl, by simp, T4.same (same_new nm), kH4.over nmH⟩ ?_ ?_
  · rintro i H5 hi ⟨ms, hm, hl, hok, T5, kp5⟩
    refine ⟨rfl, _, rfl, t, g, N + 4 + 12 * i, rfl, T5, by omega, fun H6 s ok T6 kp6 => ?_⟩
    refine ⟨_, kp6.lst hm nmT, ?_, ms ++ [s], ?_, ?_, ?_, (T6.over nmT).mono (by omega), (kp5.trans kp6).over nmH⟩
    · rw [List.length_map]
      exact small1000 (by omega)
    · rw [upd_same, List.map_append]
      rfl
    · rw [List.length_append, hl]
      rfl
    · intro c mc
      rcases List.mem_append.mp mc with mc | mc
      · exact hok c mc
      · rw [List.mem_singleton.mp mc]
        exact ok
  rintro H5 ⟨ms, hm5, hl5, hok, T5, kp5⟩
  have ml3 : ms.length ≤ 3 := by omega
  have mne : ms ≠ [] := fun e => by
    rw [e, List.length_nil] at hl5
    omega
  -- known
  refine ⟨_, rfl, _, rfl, by omega, by omega, fun kn nkn => ?_⟩
  have nknH : H kn = none := kp5.dm kn nkn
  have nknT : kn ∉ [t, g] := TA.neT nknH
  have nknm : kn ≠ m := ne_new hm5 nkn
  refine lc_range (lo := 0) (n := ((many : Nat) : Int).toNat) (fun i H' => ∃ as : List Addr, H' kn = some (.lst (as.map V.ref)) ∧ as.length = i ∧ RowsAt H' as (List.replicate i (List.replicate many 0)) ∧ as.Nodup ∧
      (∀ a ∈ as, a ∉ [t, g, kn, m] ∧ H a = none) ∧ H' m = some (.lst (ms.map V.str)) ∧ TrayAt H' t g (N + 4 + 12 * 3) ∧ Kp [t, g] H H')
    ⟨[], upd_same, rfl, .nil, List.nodup_nil, by simp, (upd_ne nknm.symm).trans hm5, (T5.same (same_new nkn)).mono (by omega), kp5.over nknH⟩ ?_ ?_
  · rintro i H6 hi ⟨as, hkn, hl, hrow, hnd, hap, hm6, T6, kp6⟩
    refine ⟨rfl, (by show 1 ≤ sizeLine; decide), fun z nz => ?_⟩
    refine ⟨_, rfl, z, _, _, rfl, rfl, upd_same, by omega, by omega, ?_, fun a na => ?_⟩
    · show 1 * ((many : Nat) : Int).toNat ≤ sizeLine
      exact Nat.le_of_lt (small1000 (by omega))
    · have naz : a ≠ z := ne_new upd_same na
      have na6 : H6 a = none := (upd_ne naz).symm.trans na
      have nakn : a ≠ kn := ne_new hkn na6
      have ha : upd (upd H6 z (.lst [.int 0])) a (.lst (List.replicate ((many : Nat) : Int).toNat ([V.int 0] : List V)).flatten) a = some (.lst ((List.replicate many (0 : Int)).map V.int)) := by
        rw [upd_same, rep_zero, Int.toNat_natCast]
      have k7 : Kp [] H6 (upd (upd H6 z (.lst [.int 0])) a (.lst (List.replicate ((many : Nat) : Int).toNat ([V.int 0] : List V)).flatten)) := (Kp.new nz).trans (.new na)
      have nas : a ∉ as := fun ma => by
        obtain ⟨j, hj⟩ := List.getElem?_of_mem ma
        obtain ⟨r, _, e⟩ := paired_at hrow hj
        rw [na6] at e
        cases e
      have k8 : Kp [kn] H6 (upd (upd (upd H6 z (.lst [.int 0])) a (.lst (List.replicate ((many : Nat) : Int).toNat ([V.int 0] : List V)).flatten)) kn (.lst (as.map V.ref ++ [.ref a]))) :=
        (k7.mono (by simp)).trans (.set (k7.lst hkn (by simp)) (by simp))
      refine ⟨_, k7.lst hkn (by simp), ?_, as ++ [a], ?_, ?_, ?_, ?_, ?_, ?_, ?_, ?_⟩
      · rw [List.length_map]
        exact small1000 (by omega)
      · rw [upd_same, List.map_append]
        rfl
      · rw [List.length_append, hl]
        rfl
      · rw [List.replicate_succ']
        refine paired_snoc (F := fun (b : Addr) (r : List Int) => upd (upd (upd H6 z (.lst [.int 0])) a (.lst (List.replicate ((many : Nat) : Int).toNat ([V.int 0] : List V)).flatten)) kn (.lst (as.map V.ref ++ [.ref a])) b = some (.lst (r.map V.int))) (hrow.keep k8 fun b mb => ?_) ((upd_ne nakn).trans ha)
        have q := (hap b mb).1
        simp only [List.mem_cons, List.not_mem_nil, or_false, not_or] at q ⊢
        exact q.2.2.1
      · rw [List.nodup_append]
        refine ⟨hnd, by simp, fun x mx y my => ?_⟩
        rw [List.mem_singleton.mp my]
        exact fun e => nas (e ▸ mx)
      · intro b mb
        rcases List.mem_append.mp mb with mb | mb
        · exact hap b mb
        · rw [List.mem_singleton.mp mb]
          refine ⟨?_, kp6.dm a na6⟩
          have q := TA.neT (kp6.dm a na6)
          simp only [List.mem_cons, List.not_mem_nil, or_false, not_or] at q ⊢
          exact ⟨q.1, q.2, nakn, ne_new hm6 na6⟩
      · exact k8.lst hm6 (by simp; exact nknm.symm)
      · simp only [List.mem_cons, List.not_mem_nil, or_false, not_or] at nknT
        exact T6.keep k8 (by simp; exact fun e => nknT.1 e.symm) (by simp; exact fun e => nknT.2 e.symm)
      · exact ((kp6.trans (k7.mono (by simp))).over nknH)
  rintro H6 ⟨as, hkn, hl, hrow, hnd, hap, hm6, T6, kp6⟩
  rw [Int.toNat_natCast] at hrow hl
  -- acts
  refine ⟨Nat.zero_le _, fun ac nac => ?_⟩
  have nacH : H ac = none := kp6.dm ac nac
  have naT := TA.neT nacH
  have W0 : WAt H (upd H6 ac (.lst [])) t g m kn ac ms as [] [] (List.replicate many (List.replicate many 0)) (N + 40) := by
    have s6 : Same H6 (upd H6 ac (.lst [])) := same_new nac
    refine {
      hkn := s6 _ _ hkn, hac := upd_same, hm := s6 _ _ hm6, rows := hrow.keep (S := []) (.of s6) (by simp), nd := hnd, apart := fun a h => ?_, nkn := ?_, nac := ?_, nm := nmT, acts := .nil, T := T6.same s6, kp := kp6.over nacH, fkn := nknH, fac := nacH, frows := fun a h => (hap a h).2 }
    · have q := (hap a h).1
      simp only [List.mem_cons, List.not_mem_nil, or_false, not_or] at q ⊢
      refine ⟨q.1, q.2.1, q.2.2.1, ?_, q.2.2.2⟩
      obtain ⟨j, hj⟩ := List.getElem?_of_mem h
      obtain ⟨r, _, e⟩ := paired_at hrow hj
      exact ne_of_none e nac
    · simp only [List.mem_cons, List.not_mem_nil, or_false, not_or] at nknT ⊢
      exact ⟨nknT.1, nknT.2, ne_of_none hkn nac, nknm⟩
    · simp only [List.mem_cons, List.not_mem_nil, or_false, not_or] at naT ⊢
      exact ⟨naT.1, naT.2, ne_new hm6 nac⟩
  generalize upd H6 ac (.lst []) = H7 at W0
  -- for turn in range(..)
  refine ⟨_, rfl, _, rfl, _, _, rfl, rfl, t, g, N + 40, most + 1, rfl, W0.T, by omega, by omega, by omega, fun H8 tn h80 h81 T8 kp8 => ?_⟩
  have W8 := W0.keep kp8 T8
  refine ⟨tn, rfl, by omega, by omega, for_range (lo := 0) (n := tn.toNat) (fun i σ H' => ∃ v6 v7 v8, σ = [some (.ref t), some (.int most), some (.int (many : Int)), some (.ref m), some (.ref kn), some (.ref ac), v6, v7, v8, none, none, none] ∧
      ∃ as ps acts known, WAt H H' t g m kn ac ms as ps acts known (N + 41 + 20 * i) ∧ Wd many acts known ∧ acts.length = i)
    ⟨none, none, none, rfl, as, [], [], _, W8, .nil, rfl⟩ ?_ ?_⟩
  · rintro i σ H9 hi ⟨v6, v7, v8, rfl, as, ps, acts, known, W9, wd, hla⟩
    obtain ⟨hkl, hrl⟩ := wd.lens
    -- who
    refine ⟨_, rfl, _, rfl, t, g, _, many, rfl, W9.T, by omega, by omega, by omega, fun HA who ha0 ha1 TA' kpA => ?_⟩
    have WA := W9.keep kpA TA'
    obtain ⟨wi, ewi⟩ : ∃ wi : Nat, who = (wi : Int) := ⟨who.toNat, by omega⟩
    have hwi : wi < known.length := by omega
    obtain ⟨row, hrow⟩ := get_some hwi
    refine ⟨fun σ H' => ∃ v8, σ = [some (.ref t), some (.int most), some (.int (many : Int)), some (.ref m), some (.ref kn), some (.ref ac), some (.int (0 + (i : Int))), some (.int who), v8, none, none, none] ∧
        ∃ as row', WAt H H' t g m kn ac ms as ps acts (known.set wi row') (N + 44 + 20 * i) ∧ (row' = row ∨ ∃ (j : Nat) (ro : List Int), known[j]? = some ro ∧ row' = List.zipWith max row ro), ?_, ?_⟩
    · refine ⟨_, rfl, t, g, _, 3, rfl, WA.T, by omega, by decide, by decide, fun HB d hb0 hb1 TB' kpB => ?_⟩
      have WB := WA.keep kpB TB'
      refine ⟨_, _, rfl, rfl, _, rfl, ite2 (fun c => ?_) (fun c => ?_)⟩
      · refine ⟨_, rfl, _, rfl, t, g, _, many, rfl, WB.T, by omega, by omega, by omega, fun HC oi hc0 hc1 TC' kpC => ?_⟩
        have WC := WB.keep kpC TC'
        obtain ⟨oj, eoj⟩ : ∃ oj : Nat, oi = (oj : Int) := ⟨oi.toNat, by omega⟩
        have hoj : oj < known.length := by omega
        obtain ⟨ro, hro⟩ := get_some hoj
        obtain ⟨ra, era, hra, mra⟩ := WC.row hrow
        obtain ⟨oa, eoa, hoa, moa⟩ := WC.row hro
        have hll : row.length = many := hrl _ (List.mem_of_getElem? hrow)
        have hol : ro.length = many := hrl _ (List.mem_of_getElem? hro)
        refine ⟨_, rfl, _, rfl, kn, _, _, _, rfl, rfl, SqL.of WC.hkn, at_of ewi mra, _, rfl, _, rfl, kn, _, _, _, rfl, rfl, SqL.of WC.hkn, at_of eoj moa, ra, oa, _, _, rfl, SqL.of hra, SqL.of hoa, fun D nD => ?_⟩
        refine lc_it (walk_zip (K := K) (a := ra) (b := oa) (xs := row.map V.int) (ys := ro.map V.int) (n := many) (by rw [List.length_map, List.length_map, hll, hol, Nat.min_self]))
          (fun i H' => Kp [D] HC H' ∧ Same HC H' ∧ H' D = some (.lst (((List.zipWith max row ro).take i).map V.int))) ⟨.new nD, same_new nD, upd_same⟩ (fun i H' _ h => ⟨h.2.1.seq (SqL.of hra), h.2.1.seq (SqL.of hoa)⟩) ?_ ?_
        · rintro i2 x HD HE hi2 ⟨kD, sD, hD⟩ ⟨T, x1, y1, rfl, nT, rfl, e1, e2⟩
          obtain ⟨z1, hz1, rfl⟩ := map_int_at e1
          obtain ⟨z2, hz2, rfl⟩ := map_int_at e2
          refine ⟨T, _, rfl, sqT upd_same, rfl, _, _, rfl, _, _, rfl, rfl, rfl, _, rfl, _, rfl, _, _, rfl, ?_⟩
          have nTD : T ≠ D := ne_new hD nT
          refine ⟨_, (upd_ne nTD.symm).trans hD, ?_, (kD.trans (.new nT)).trans (.set ((upd_ne nTD.symm).trans hD) (by simp)), fun b o e => ?_, ?_⟩
          · rw [List.length_map]
            exact small1000 (Nat.le_trans (List.length_take_le _ _) (by omega))
          · rw [upd_ne (ne_of_none e nD), upd_ne (ne_of_none (sD _ _ e) nT)]
            exact sD _ _ e
          · rw [upd_same, zip_take hz1 hz2, List.map_append, max_int]
            rfl
        · rintro HD ⟨kD, sD, hD⟩
          rw [List.take_of_length_le (by rw [List.length_zipWith]; omega)] at hD
          have nDH : H D = none := WC.kp.dm D nD
          have WD := WC.keep (H' := HD) (.of sD) (WC.T.same sD)
          have hjl : wi < (as.map V.ref).length := (List.getElem?_eq_some_iff.mp mra).1
          refine ⟨_, rfl, _, rfl, kn, _, who, wi, rfl, rfl, WD.hkn, ixN_of ewi hjl, ?_⟩
          refine ⟨_, rfl, as.set wi D, _, ?_, .inr ⟨oj, ro, hro, rfl⟩⟩
          rw [map_set_ref]
          refine (WD.put hD ?_ ?_ nDH).mono (by omega)
          · have q := WC.T.neT nD
            simp only [List.mem_cons, List.not_mem_nil, or_false, not_or] at q ⊢
            exact ⟨q.1, q.2, ne_new WC.hkn nD, ne_new WC.hac nD, ne_new WC.hm nD⟩
          · intro md
            obtain ⟨j, hj⟩ := List.getElem?_of_mem md
            obtain ⟨r, _, e⟩ := paired_at WC.rows hj
            rw [nD] at e
            cases e
      · refine ⟨v8, rfl, as, row, ?_, .inl rfl⟩
        have e : known.set wi row = known := by
          obtain ⟨hl, he⟩ := List.getElem?_eq_some_iff.mp hrow
          rw [← he, List.set_getElem_self]
        rw [e]
        exact WB.mono (by omega)
    · rintro σ HB ⟨v8, rfl, as, row', WB, hr'⟩
      have hl' : row'.length = many := by
        rcases hr' with rfl | ⟨j, ro, hj, rfl⟩
        · exact hrl _ (List.mem_of_getElem? hrow)
        · rw [List.length_zipWith, hrl _ (List.mem_of_getElem? hrow), hrl _ (List.mem_of_getElem? hj), Nat.min_self]
      obtain ⟨c, hc⟩ := get_some (l := row') (i := wi) (by omega)
      have hself : (known.set wi row')[wi]? = some row' := List.getElem?_set_self hwi
      obtain ⟨ra, era, hra, mra⟩ := WB.row hself
      refine ⟨_, rfl, .inl ⟨rfl, _, SqL.of WB.hac⟩, _, rfl, _, rfl, _, rfl, kn, _, _, _, rfl, rfl, SqL.of WB.hkn, at_of ewi mra, _, rfl, ra, _, _, _, rfl, rfl, SqL.of hra, at_of ewi (ints_at hc), _, _, rfl, rfl,
        _, rfl, _, rfl, kn, _, _, _, rfl, rfl, SqL.of WB.hkn, at_of ewi mra, ra, _, rfl, .inl ⟨SqL.of hra, fun n nn => ?_⟩⟩
      have W1 := WB.keep (.new (o := .tup (row'.map V.int)) nn) (WB.T.same (same_new nn))
      have hn1 : upd HB n (.tup (row'.map V.int)) n = _ := upd_same
      generalize upd HB n (.tup (row'.map V.int)) = H1 at W1 hn1
      refine ⟨_, rfl, _, rfl, _, rfl, _, rfl, t, g, m, _, who, many, ms, rfl, W1.T, by omega, ha0, ha1, by omega, W1.hm, W1.nm, mne, ml3, hok, fun H2 qa wt nq hq ok T2 kp2 => ?_⟩
      have W2 := W1.keep kp2 T2
      refine ⟨(by show 4 ≤ sizeLine; decide), fun p np => ?_⟩
      have k3 : Kp [t, g] H2 (upd H2 p (.tup [.int who, .int (c + 1), .ref n, .ref qa])) := .new np
      have W3 := W2.keep k3 (W2.T.same (same_new np))
      have hact : ActAt (upd H2 p (.tup [.int who, .int (c + 1), .ref n, .ref qa])) p ⟨(wi : Int), c + 1, row', wt⟩ := by
        refine ⟨n, qa, ?_, k3.tp _ _ (kp2.tp _ _ hn1), k3.tp _ _ hq⟩
        rw [upd_same, ewi]
      have hpl : (ps.map V.ref).length = i := by
        rw [List.length_map, paired_len W3.acts, hla]
      refine ⟨ac, _, _, rfl, rfl, W3.hac, by rw [hpl]; exact small1000 (by omega), ?_⟩
      have W4 := W3.app hact
      have hra4 : upd (upd H2 p (.tup [.int who, .int (c + 1), .ref n, .ref qa])) ac (.lst (ps.map V.ref ++ [.ref p])) ra = some (.lst (row'.map V.int)) := by
        obtain ⟨y, ey, e⟩ := paired_at W4.rows era
        rw [hself] at ey
        cases ey
        exact e
      refine ⟨_, rfl, _, rfl, kn, _, _, _, rfl, rfl, SqL.of W4.hkn, at_of ewi mra, _, rfl, ra, _, _, _, rfl, rfl, SqL.of hra4, at_of ewi (ints_at hc), _, _, rfl, rfl,
        _, rfl, _, rfl, kn, _, _, _, rfl, rfl, SqL.of W4.hkn, at_of ewi mra, _, rfl, ra, _, who, wi, rfl, rfl, hra4, ixN_of ewi (by rw [List.length_map]; omega), ?_⟩
      have W5 := W4.turn (row := row'.set wi (c + 1)) era hra4
      rw [List.set_set, List.map_set] at W5
      refine ⟨_, _, _, rfl, as, _, _, _, W5.mono (by omega), wd.step hrow hr' hc (by rw [← ewi]; exact ok), ?_⟩
      rw [List.length_append, hla]
      rfl
  · rintro σ H9 ⟨v6, v7, v8, rfl, as, ps, acts, known, W9, wd, hla⟩
    refine ⟨_, rfl, _, rfl, (by show 2 ≤ sizeLine; decide), fun r nr => ?_⟩
    have s9 : Same H9 (upd H9 r (.lst [.int (many : Int), .ref ac])) := same_new nr
    have W10 := W9.keep (.of s9) (W9.T.same s9)
    have hla2 : (acts.length : Int) ≤ most := by omega
    refine q _ r ac ps many acts known b1 b6 hla2 wd (W9.kp.dm r nr) nacH ?_ naT upd_same W10.hac W10.acts (W10.T.mono (by omega)) W10.kp
    have q := W9.T.neT nr
    simp only [List.mem_cons, List.not_mem_nil, or_false, not_or] at q ⊢
    exact ⟨q.1, q.2, ne_new W9.hac nr⟩
end
end FR

/-! Sorting by tuples that begin with ints: sorted(xs), sorted(xs, key=f) with a def f, any length. -/
namespace FR
open PySem PySem.Spec PyProof.Rows L2 SrtO
/-! ### the order of lists of ints -/
theorem lex_tot : ∀ a b : List Int, HT.lexLt a b = false → HT.lexLt b a = false → a = b
  | [], [], _, _ => rfl
  | [], _ :: _, h, _ => nomatch h
  | _ :: _, [], _, h => nomatch h
  | x :: a, y :: b, h, k => by
    rw [HT.lexLt_cons] at h k
    by_cases e : x = y
    · rw [if_pos e] at h
      rw [if_pos e.symm] at k
      rw [e, lex_tot a b h k]
    · rw [if_neg e, decide_eq_false_iff_not] at h
      rw [if_neg (fun q => e q.symm), decide_eq_false_iff_not] at k
      omega
theorem lex_irr : ∀ a : List Int, HT.lexLt a a = false
  | [] => rfl
  | x :: a => by
    rw [HT.lexLt_cons, if_pos rfl]
    exact lex_irr a
theorem lex_asym : ∀ a b : List Int, HT.lexLt a b = true → HT.lexLt b a = false
  | [], [], h => nomatch h
  | [], _ :: _, _ => rfl
  | _ :: _, [], h => nomatch h
  | x :: a, y :: b, h => by
    rw [HT.lexLt_cons] at h ⊢
    by_cases e : x = y
    · rw [if_pos e] at h
      rw [if_pos e.symm]
      exact lex_asym a b h
    · rw [if_neg e, decide_eq_true_eq] at h
      rw [if_neg (fun q => e q.symm), decide_eq_false_iff_not]
      omega
theorem lex_trans : ∀ a b c : List Int, HT.lexLt a b = true → HT.lexLt b c = true → HT.lexLt a c = true
  | [], [], _, h, _ => nomatch h
  | [], _ :: _, [], _, k => nomatch k
  | [], _ :: _, _ :: _, _, _ => rfl
  | _ :: _, [], _, h, _ => nomatch h
  | _ :: _, _ :: _, [], _, k => nomatch k
  | x :: a, y :: b, z :: c, h, k => by
    rw [HT.lexLt_cons] at h k ⊢
    by_cases e : x = y
    · rw [if_pos e] at h
      by_cases f : y = z
      · rw [if_pos f] at k
        rw [if_pos (e.trans f)]
        exact lex_trans a b c h k
      · rw [if_neg f] at k
        rw [if_neg (e ▸ f), e]
        exact k
    · rw [if_neg e, decide_eq_true_eq] at h
      by_cases f : y = z
      · rw [← f, if_neg e, decide_eq_true_eq]
        exact h
      · rw [if_neg f, decide_eq_true_eq] at k
        rw [if_neg (by omega), decide_eq_true_eq]
        omega
theorem lex_swo {α : Type} (k : α → List Int) : Swo fun x y => HT.lexLt (k x) (k y) := by
  refine ⟨fun x y h => lex_asym _ _ h, fun x y z h1 h2 => ?_⟩
  cases h : HT.lexLt (k z) (k x) with
  | false => rfl
  | true =>
    cases h3 : HT.lexLt (k x) (k y) with
    | true => exact absurd (lex_trans _ _ _ h h3) (by rw [h2]; exact Bool.false_ne_true)
    | false =>
      rw [lex_tot _ _ h1 h3, h] at h2
      cases h2
/-! ### a tuple that begins with ints -/
/-- v is a tuple that begins with the ints ns -/
def Lead (h : Heap) (v : Value) (ns : List Int) : Prop := ∃ (a : Addr) (o : Obj) (us rs : List Value) (n : Nat), v = .ref a ∧ h.get? a = some o ∧ o.cls = .type "tuple" ∧ o.data = .seq (us ++ rs).toArray n ∧ IntsAre us ns
theorem Lead.keeps {h h' : Heap} {v : Value} {ns : List Int} (p : Lead h v ns) (k : ∀ b o, h.get? b = some o → o.cls = .type "tuple" → h'.get? b = some o) : Lead h' v ns := by
  obtain ⟨a, o, us, rs, n, e, ho, hc, hd⟩ := p
  exact ⟨a, o, us, rs, n, e, k _ _ ho hc, hc, hd⟩
section
variable {prog : Program} {w : World} {A : Around} {E : Value → Shared → Prop} {s : Shared}
theorem less_ints (c : Bool) {p q : Int} {t u : Tok} {Q : Bool → Shared → Prop} (h : Q (decide (p < q)) s) : wpAny (model prog w) A (oneLt' c (.int p t) (.int q u)) Q (fun _ _ => False) s := by
  cases c
  · exact PySem.W.kat_one _ _ (PyProof.Rows.lt_int (Q := PySem.W.BoolBack Q) h)
  · exact oneLt_int h
/-- walking two such tuples: the ints decide -/
theorem lead_run {fin b : Bool} {r : Bool} {rest : List (Value × Value)} : ∀ (ns ms : List Int) (us ws : List Value) (i : Nat), IntsAre us ns → IntsAre ws ms → ns.length = ms.length → ns ≠ ms → HT.lexLt ns ms = r →
    PySem.W.KatLex prog w A b fin (fun q s' => s' = s ∧ q = r) (us.zip ws ++ rest) i s
  | [], [], _, _, _, _, _, _, h, _ => absurd rfl h
  | [], _ :: _, _, _, _, _, _, h, _, _ => nomatch h
  | _ :: _, [], _, _, _, _, _, h, _, _ => nomatch h
  | x :: ns, y :: ms, _, _, i, .cons _ t hu, .cons _ u hw, hl, hn, hr => by
    refine PySem.W.kat_cons (SeqAt.EqAt.int_int x t y u prog w _ _ ?_)
    refine PySem.W.kat_go (fun e => ?_) (fun e => ?_)
    · have ex : x = y := by simpa using e
      rw [HT.lexLt_cons, if_pos ex] at hr
      exact PySem.W.kat_yes (lead_run ns ms _ _ (i + 1) hu hw (Nat.succ.inj hl) (fun q => hn (by rw [ex, q])) hr)
    · have ex : ¬ x = y := by simpa using e
      rw [HT.lexLt_cons, if_neg ex] at hr
      exact PySem.W.kat_no (less_ints _ ⟨rfl, hr⟩)
/-- a tuple beside itself: its things are the same ones -/
theorem same_run {b : Bool} : ∀ (us : List Value) (i : Nat), PySem.W.KatLex prog w A b false (fun q s' => s' = s ∧ q = false) (us.zip us) i s
  | [], _ => PySem.W.kat_nil ⟨rfl, rfl⟩
  | v :: us, i => PySem.W.kat_cons (SeqAt.EqAt.same v prog w _ _ (PySem.W.kat_yes (same_run us (i + 1))))
/-- any two of the list's keys compare by their ints: they are of one length, and where they are the same the keys are one -/
theorem lead_cmp {ks : List Value} {k : Value → List Int} {d : Nat} (hp : ∀ v ∈ ks, Lead s.heap v (k v)) (hd : ∀ v ∈ ks, (k v).length = d) (hu : ∀ v ∈ ks, ∀ u ∈ ks, k v = k u → v = u) :
    Cmp prog w A s (tuples' true) (fun p => p.1 ∈ ks) (lt2 fun v u => HT.lexLt (k v) (k u)) := by
  intro p q hm hm'
  show wpAny (model prog w) A (keyLt' (tuples' true) p.1 q.1) (fun r s' => s' = s ∧ r = HT.lexLt (k p.1) (k q.1)) (fun _ _ => False) s
  obtain ⟨a, o, us, rs, n, e, ho, hc, hdt, hi⟩ := hp _ hm
  obtain ⟨a', o', us', rs', n', e', ho', hc', hdt', hi'⟩ := hp _ hm'
  by_cases hk : k p.1 = k q.1
  · have hpq := hu _ hm _ hm' hk
    rw [← hpq, lex_irr, e]
    refine PySem.W.kat_lt ho hdt ho hdt ?_
    rw [decide_eq_false (Nat.lt_irrefl _)]
    exact same_run _ 0
  · have fin : ∀ r, HT.lexLt (k p.1) (k q.1) = r → PySem.W.KatLex prog w A true (decide ((us ++ rs).toArray.size < (us' ++ rs').toArray.size)) (fun q s' => s' = s ∧ q = r) (us.zip us' ++ rs.zip rs') 0 s := fun r er =>
      lead_run _ _ us us' 0 hi hi' (by rw [hd _ hm, hd _ hm']) hk er
    have f2 := fin _ rfl
    generalize HT.lexLt (k p.1) (k q.1) = r at f2
    rw [e, e']
    refine PySem.W.kat_lt ho hdt ho' hdt' ?_
    have hl : us.length = us'.length := by rw [IntsAre.length hi, IntsAre.length hi', hd _ hm, hd _ hm']
    have ez : (us ++ rs).toArray.toList.zip (us' ++ rs').toArray.toList = us.zip us' ++ rs.zip rs' := by
      show (us ++ rs).zip (us' ++ rs') = _
      exact List.zip_append hl
    rw [ez]
    exact f2
theorem lead_firsts {h : Heap} {k : Value → List Int} : ∀ {ks : List Value}, (∀ v ∈ ks, Lead h v (k v)) → (∀ v ∈ ks, 1 ≤ (k v).length) → ∃ fs : List Value, PySem.W.KatTups h ks fs ∧ fs.length = ks.length ∧ ∀ f ∈ fs, ∃ x t, f = Value.int x t
  | [], _, _ => ⟨[], PySem.W.KatTups.nil, rfl, fun _ hm => by simp at hm⟩
  | v :: ks, hp, hd => by
    obtain ⟨fs, h1, h2, h3⟩ := lead_firsts (ks := ks) (fun u m => hp u (List.mem_cons_of_mem _ m)) (fun u m => hd u (List.mem_cons_of_mem _ m))
    obtain ⟨a, o, us, rs, n, e, ho, hc, hdt, hi⟩ := hp v (List.mem_cons_self ..)
    have h1' := hd v (List.mem_cons_self ..)
    generalize k v = ns0 at hi h1'
    subst e
    cases hi with
    | nil => exact absurd h1' (by simp)
    | @cons x t us ns r =>
      refine ⟨.int x t :: fs, PySem.W.KatTups.cons ho hc hdt (by simp) h1, by rw [List.length_cons, List.length_cons, h2], fun f hm => ?_⟩
      rcases List.mem_cons.mp hm with rfl | hm
      · exact ⟨x, t, rfl⟩
      · exact h3 f hm
theorem lead_kind {ks : List Value} {k : Value → List Int} {Q : SortKind → Shared → Prop} (h0 : 0 < ks.length) (hp : ∀ v ∈ ks, Lead s.heap v (k v)) (hd : ∀ v ∈ ks, 1 ≤ (k v).length) (h : Q (tuples' true) s) :
    wpAny (model prog w) A (keyKind' ks.toArray) Q E s := by
  obtain ⟨fs, h1, h2, h3⟩ := lead_firsts hp hd
  have e : (Value.type "int" != Value.type "tuple") = true := by first | decide +kernel | rfl | decide
  refine PySem.W.kat_kind (T := .type "int") h1 (by omega) (fun f hm => ?_) (by rfl) (by rw [e]; exact h)
  obtain ⟨x, t, rfl⟩ := h3 f hm
  exact PySem.W.Looks.now
end
end FR

/-! Rules of calls that the proofs need beside the layer's: sum and min of a tuple of ints, set of a list of ints. -/
namespace FR
open PySem PySem.Spec PyProof.Rows L2
theorem pre_take (ns : List Int) : ∀ j, preSum (fun i => ns.getD i 0) j = (ns.take j).sum
  | 0 => by
    rw [List.take_zero]
    rfl
  | j + 1 => by
    have ih := pre_take ns j
    show preSum (fun i => ns.getD i 0) j + ns.getD j 0 = (ns.take (j + 1)).sum
    rw [ih, List.take_add_one]
    cases e : ns[j]? with
    | none => simp [List.getD, e]
    | some z => simp [List.getD, e]
section
variable {prog : Program} {w : World} {A : Around} {E : Value → Shared → Prop} {s : Shared} {l : Addr} {its : List Value} {ns : List Int}
/-- what an iterator over a tuple is at its start -/
theorem tup_start (hl : IsTup s.heap l its.toArray) {Q : Value → Shared → Prop}
    (h : ∀ hp : Heap, hp = s.heap.push { cls := .type "tuple_iterator", data := .fields #[.ref l, .int 0 0] } → l ≠ s.heap.objs.size → hp.IsTupleIter s.heap.objs.size l 0 → hp.IsTuple l its.toArray →
      (∀ b ∈ [s.heap.objs.size, l], b < hp.objs.size) → Q (.ref s.heap.objs.size) { s with heap := hp }) : wpAny (model prog w) A (pyIter (.ref l)) Q E s := by
  have lt : l < s.heap.objs.size := by
    obtain ⟨o, e, r⟩ := hl
    exact Heap.lt_size e
  refine wpAny_pyIter_tuple hl (h _ rfl (Nat.ne_of_lt lt) ⟨_, Heap.get?_push_size _ rfl, rfl, rfl⟩ (Heap.IsTuple.push hl _) fun b mb => ?_)
  have sz : (s.heap.push { cls := .type "tuple_iterator", data := .fields #[.ref l, .int 0 0] }).objs.size = s.heap.objs.size + 1 := Heap.size_push ..
  simp only [List.mem_cons, List.not_mem_nil, or_false] at mb
  rw [sz]
  rcases mb with rfl | rfl
  · exact Nat.lt_succ_self _
  · exact Nat.lt_succ_of_lt lt
theorem kept_push {hp : Heap} {o : Obj} (hk : ∀ b u, b ∉ [s.heap.objs.size] → (s.heap.push o).get? b = some u → hp.get? b = some u) : ∀ b u, s.heap.get? b = some u → hp.get? b = some u := fun b u e => by
  have lt := Heap.lt_size e
  refine hk b u ?_ (Heap.get?_push_of_some _ e)
  simp only [List.mem_cons, List.not_mem_nil, or_false]
  exact Nat.ne_of_lt lt
theorem tup_val (hi : IntsAre its ns) : ∀ (i : Nat) (v : Value), its.toArray[i]? = some v → ∃ t, v = .int (ns.getD i 0) t := fun i v e =>
  PyProof.Rows.IntsAre.int_at hi i v (by simpa using e)
theorem sum_tup {Q : Value → Shared → Prop} (hh : A.handled = none) (hl : IsTup s.heap l its.toArray) (hi : IntsAre its ns)
    (h : ∀ hp tk t', (∀ b o, s.heap.get? b = some o → hp.get? b = some o) → Q (.int ns.sum t') { s with heap := hp, toks := tk }) : wpAny (model prog w) A (call (.builtin "sum") [.ref l]) Q E s := by
  refine call_sum_walkG (tup_start hl fun hp ep ne st0 st1 hf => ?_)
  subst ep
  refine ⟨_, _, _, _, _, _, fun i => ns.getD i 0, rfl, Walks.tuple (A := A.in1) (by simpa using hh) s.heap.objs.size l ne its.toArray, ⟨st0, st1⟩, hf, tup_val hi, fun h2 tk t' hk => ?_⟩
  have e : preSum (fun i => ns.getD i 0) its.toArray.size = ns.sum := by
    rw [pre_take, List.take_of_length_le]
    have q := IntsAre.length hi
    simp
    omega
  rw [e]
  exact h h2 tk t' (kept_push hk)
theorem min_tup {Q : Value → Shared → Prop} (hh : A.handled = none) (hl : IsTup s.heap l its.toArray) (hi : IntsAre its ns) (hne : 0 < ns.length)
    (h : ∀ hp tk m t', (∀ b o, s.heap.get? b = some o → hp.get? b = some o) → m ∈ ns → (∀ a, a ∈ ns → m ≤ a) → Q (.int m t') { s with heap := hp, toks := tk }) : wpAny (model prog w) A (call (.builtin "min") [.ref l]) Q E s := by
  have hlen := IntsAre.length hi
  refine call_min_walk (tup_start hl fun hp ep ne st0 st1 hf => ?_)
  subst ep
  refine ⟨_, _, _, _, _, _, _, rfl, Walks.tuple (A := A.in1) (by simpa using hh) s.heap.objs.size l ne its.toArray, ⟨st0, st1⟩, hf, by simp; omega, CmpOf.ints_lt (fun i => ns.getD i 0) (tup_val hi), fun v h2 tk hv hk => ?_⟩
  obtain ⟨t, rfl⟩ := tup_val hi _ _ hv
  obtain ⟨b1, b2⟩ := argBest_lt (fun i => ns.getD i 0) (its.toArray.size - 1)
  have sz : its.toArray.size = ns.length := by simp; omega
  refine h h2 tk _ t (kept_push hk) ?_ fun a ma => ?_
  · exact PySem.getD_mem (by omega)
  · obtain ⟨j, hj, rfl⟩ := List.mem_iff_getElem.mp ma
    have q := b2 j (by omega)
    rw [show ns[j] = ns.getD j 0 by simp [List.getD, hj]]
    exact q
end
section
variable {X : Cx}
theorem cr_sumT (hc : X.calm = true) : CallR X (.builtin "sum") (fun vs H Q => ∃ (a : Addr) (ns : List Int), vs = [V.ref a] ∧ SqT X.K H a (ns.map V.int) ∧ Q (.int ns.sum) H) := by
  intro pins s σ H vs us Q I r h
  obtain ⟨a, ns, rfl, hs, q⟩ := h
  obtain ⟨its, rv, hl, hz⟩ := I.tuple hs
  rw [Vals.ref1 r]
  exact sum_tup (I.ok.hd hc) hl rv.ints fun hp tk t' hk => ⟨.int _, H, I.kept hk, ⟨_, rfl⟩, q⟩
theorem cr_minT (hc : X.calm = true) : CallR X (.builtin "min") (fun vs H Q => ∃ (a : Addr) (ns : List Int), vs = [V.ref a] ∧ SqT X.K H a (ns.map V.int) ∧ 0 < ns.length ∧ ∀ m, m ∈ ns → (∀ y, y ∈ ns → m ≤ y) → Q (.int m) H) := by
  intro pins s σ H vs us Q I r h
  obtain ⟨a, ns, rfl, hs, hne, q⟩ := h
  obtain ⟨its, rv, hl, hz⟩ := I.tuple hs
  rw [Vals.ref1 r]
  exact min_tup (I.ok.hd hc) hl rv.ints hne fun hp tk m t' hk h1 h2 => ⟨.int _, H, I.kept hk, ⟨_, rfl⟩, q m h1 h2⟩
end
section
variable {X : Cx} {CX : CXT} {k n : Nat} {f : Addr} {fd : FuncData} {ps ks : List Str} {sp : Sp} {E : XK} {x : Str} {p pos : Pos} {kws : List Keyword} {tk : TA} {g : List Value → List Value → List Value} {gV : List V → List V → List V}
/-- f(k = v, ..): keywords alone -/
theorem pe_callKw (F : FnOk X.prog X.w X.K X.mg X.base CX k f fd ps sp) (hr : Room k X.A) (hg : Gl X x) (hm : X.mg x = some (.ref f)) (hk : PySem.W.keepIn X.K (.ref f) = true) (hb : KBn X.K fd ps 0 ks g gV) (hx : Passes CX X E) (hkw : PK X kws tk)
    (hall : (backToKw pos (keywordEach kws X.env)).all (·.1.isSome) = true := by rfl) (hks : (backToKw pos (keywordEach kws X.env)).filterMap (·.1) = ks := by rfl) (hdb : (x == ("__debug__" : Str)) = false := by decide)
    (hpl : ((backTo pos (starEach [] X.env)).any (·.1) || (backToKw pos (keywordEach kws X.env)).any (·.1.isNone)) = false := by rfl) : PE X (.Call (.Name x p) [] kws pos) (tCallN 0 ks.length sp gV E tNil tk) := by
  constructor
  intro pins s σ H Q I h
  refine wpAny_Call_Name_kw (ld_glob I hg hm (PySem.W.callWith_KW0 (h₀ := X.base) I.ok.mod.kin hk hall (thn (hkw.run pos pins s σ H _ I h) fun ws s2 ⟨zs, H2, I2, rz, l1, l2, q2⟩ => ⟨I2.kIn, ?_⟩) hpl) hdb)
  rw [hks]
  exact run_fnN (us := []) (vs := []) F hr hb hx I2 .nil rz rfl l2 q2
/-- how such a call binds, for a def without defaults -/
theorem kbn_of {K : PySem.W.Frag} {nm qual : Str} {st : Stmt} (F : Fun K nm qual st f fd) (n : Nat)
    (h : ∀ (kV doc pm : Value) (an : Option Addr) (cdv ct : Value) (us ws : List Value), us.length = n → ws.length = ks.length → bindArgs (PySem.W.fnOf nm qual (defArgs st) (defBody st) (defScope st) .none kV doc pm an cdv ct) ⟨us, ks.zip ws⟩ = pure (ps.zip (g us ws)))
    (hrel : ∀ {vs : List V} {us : List Value} {zs : List V} {ws : List Value}, Vals vs us → Vals zs ws → Vals (gV vs zs) (g us ws)) : KBn K fd ps n ks g gV := by
  obtain ⟨oc, od, kV, doc, pm, an, cdv, ct, osl, rfl, lk, hcd⟩ := F.ex
  exact ⟨fun s us ws _ l1 l2 => .of_eq (h kV doc pm an cdv ct us ws l1 l2), hrel⟩
def swap2 {α : Type} : List α → List α → List α
  | _, [m, d] => [d, m]
  | _, _ => []
theorem swap2_rel {vs : List V} {us : List Value} {zs : List V} {ws : List Value} (_ : Vals vs us) (r : Vals zs ws) : Vals (swap2 vs zs) (swap2 us ws) := by
  cases r with
  | nil => exact .nil
  | cons a t => cases t with
    | nil => exact .nil
    | cons b t => cases t with
      | nil => exact .cons b (.cons a .nil)
      | cons c t => exact .nil
def kwsOnly {α : Type} (_ ws : List α) : List α := ws
theorem kwsOnly_rel {vs : List V} {us : List Value} {zs : List V} {ws : List Value} (_ : Vals vs us) (r : Vals zs ws) : Vals (kwsOnly vs zs) (kwsOnly us ws) := r
end
end FR

/-! sorted(xs, key=f), f a def that gives a tuple of ints, any length. -/
namespace FR
open PySem PySem.Spec PyProof.Rows L2 SrtO
/-- v is a tuple of the ints ns, at least one -/
def IsInts (h : Heap) (v : Value) (ns : List Int) : Prop := ∃ (a : Addr) (o : Obj) (us : List Value) (n : Nat), v = .ref a ∧ h.get? a = some o ∧ o.cls = .type "tuple" ∧ o.data = .seq us.toArray n ∧ IntsAre us ns
theorem IsInts.lead {h : Heap} {v : Value} {ns : List Int} (p : IsInts h v ns) : Lead h v ns := by
  obtain ⟨a, o, us, n, e, ho, hc, hd, hi⟩ := p
  exact ⟨a, o, us, [], n, e, ho, hc, by rw [List.append_nil]; exact hd, hi⟩
section
variable {prog : Program} {w : World} {A : Around} {E : Value → Shared → Prop} {s : Shared}
theorem even_run {b : Bool} : ∀ (ns : List Int) (us ws : List Value) (i : Nat), IntsAre us ns → IntsAre ws ns → PySem.W.KatLex prog w A b false (fun q s' => s' = s ∧ q = false) (us.zip ws) i s
  | [], _, _, i, .nil, .nil => PySem.W.kat_nil ⟨rfl, rfl⟩
  | x :: ns, _, _, i, .cons _ t hu, .cons _ u hw => by
    refine PySem.W.kat_cons (SeqAt.EqAt.int_int x t x u prog w _ _ ?_)
    refine PySem.W.kat_go (fun e => ?_) (fun e => ?_)
    · exact PySem.W.kat_yes (even_run ns _ _ (i + 1) hu hw)
    · exact absurd e (by simp)
theorem ints_lt {v u : Value} {ns ms : List Int} (hv : IsInts s.heap v ns) (hu : IsInts s.heap u ms) (hl : ns.length = ms.length) :
    wpAny (model prog w) A (keyLt' (tuples' true) v u) (fun r s' => s' = s ∧ r = HT.lexLt ns ms) (fun _ _ => False) s := by
  obtain ⟨a, o, us, n, e, ho, hc, hd, hi⟩ := hv
  obtain ⟨a', o', ws, n', e', ho', hc', hd', hi'⟩ := hu
  have hsz : us.length = ws.length := by rw [IntsAre.length hi, IntsAre.length hi', hl]
  rw [e, e']
  refine PySem.W.kat_lt ho hd ho' hd' ?_
  have ef : decide (us.toArray.size < ws.toArray.size) = false := by
    rw [List.size_toArray, List.size_toArray, hsz]
    exact decide_eq_false (Nat.lt_irrefl _)
  rw [ef]
  by_cases hk : ns = ms
  · subst hk
    rw [lex_irr]
    exact even_run ns us ws 0 hi hi'
  · have q := lead_run (prog := prog) (w := w) (A := A) (s := s) (fin := false) (b := true) (r := HT.lexLt ns ms) (rest := []) ns ms us ws 0 hi hi' hl hk rfl
    rw [List.append_nil] at q
    exact q
theorem leads_kind {ks : List Value} {Q : SortKind → Shared → Prop} (h0 : 0 < ks.length) (hp : ∀ v ∈ ks, ∃ ns, Lead s.heap v ns ∧ 1 ≤ ns.length) (h : Q (tuples' true) s) : wpAny (model prog w) A (keyKind' ks.toArray) Q E s := by
  have hk : ∀ v ∈ ks, Lead s.heap v (Classical.epsilon fun ns => Lead s.heap v ns ∧ 1 ≤ ns.length) ∧ 1 ≤ (Classical.epsilon fun ns => Lead s.heap v ns ∧ 1 ≤ ns.length).length := fun v hv => Classical.epsilon_spec (hp v hv)
  exact lead_kind (k := fun v => Classical.epsilon fun ns => Lead s.heap v ns ∧ 1 ≤ ns.length) h0 (fun v hv => (hk v hv).1) (fun v hv => (hk v hv).2) h
end
/-- the keys beside the items -/
def KeyedBy (k : V → List Int) (h : Heap) : List Value → List V → Prop := Paired fun v x => IsInts h v (k x)
theorem paired_zip {α β : Type} {F : α → β → Prop} : ∀ {l : List α} {m : List β}, Paired F l m → ∀ p ∈ l.zip m, F p.1 p.2
  | _, _, .nil, p, hp => by simp at hp
  | _, _, .cons q t, p, hp => by
    rw [List.zip_cons_cons] at hp
    rcases List.mem_cons.mp hp with rfl | hp
    · exact q
    · exact paired_zip t p hp
theorem paired_in {F : Value → V → Prop} : ∀ {l : List Value} {m : List V}, Paired F l m → Paired (fun v x => F v x ∧ x ∈ m) l m
  | _, _, .nil => .nil
  | _, _, .cons q t => .cons ⟨q, List.mem_cons_self⟩ (Paired.mapP (paired_in t) fun _ _ z => ⟨z.1, List.mem_cons_of_mem _ z.2⟩)
theorem paired_unmap {F : Value → V → Prop} {g : Value → V} : ∀ {l m : List Value}, Paired F l (m.map g) → Paired (fun v u => F v (g u)) l m
  | [], [], _ => .nil
  | _ :: _, [], h => nomatch h
  | [], _ :: _, h => nomatch h
  | _ :: _, _ :: _, .cons q t => .cons q (paired_unmap t)
theorem srtd_less2 {α : Type} {lt : α → α → Bool} : ∀ {l : List α}, l.length < 2 → Srtd lt l
  | [], _ => List.Pairwise.nil
  | [x], _ => srtd_one x
  | _ :: _ :: _, h => absurd h (by simp)
def rSortKey (K : PySem.W.Frag) (sp : Sp) (E0 : XK) (f : Addr) : List V → List V → Hp → VK → Prop := fun vs zs H Q => ∃ (a : Addr) (xs : List V) (k : V → List Int) (d : Nat), vs = [V.ref a] ∧ zs = [V.ref f] ∧ SqL K H a xs ∧ 1 ≤ d ∧
  (∀ x ∈ xs, ∃ t, x = V.ref t) ∧ (∀ x ∈ xs, (k x).length = d) ∧
  (∀ x ∈ xs, ∀ H', Same H H' → sp [x] H' (fun z H2 => Same H' H2 ∧ ∃ p, z = .ref p ∧ H2 p = some (.tup ((k x).map V.int))) E0) ∧
  ∀ ys p H', Srtd (fun x y => HT.lexLt (k x) (k y)) ys → Stb (fun x y => HT.lexLt (k x) (k y)) ys xs → Same H H' → H' p = none → H p = none → Q (.ref p) (upd H' p (.lst ys))
section
variable {X : Cx} {CX : CXT} {n : Nat} {f : Addr} {sp : Sp} {E0 : XK} {pins : List (Addr × Obj)} {σ : L2.St} {H : Hp}
/-- a record of ours stays through a call -/
theorem un_kept {H1 H2 : Hp} {h1 h2 : Heap} {b : Addr} {o : Obj} {s : Shared} (I : Inv X pins σ H s) (u : Un (frs X.stack) [] H1 H2 h1 h2) (fb : FpOk X pins H1 b) (e : h1.get? b = some o) : h2.get? b = some o ∧ FpOk X pins H2 b :=
  ⟨u.keep b o e fb.1 (fun z => (List.mem_cons.mp (I.stkSub b z)).elim fb.2.1 fb.2.2.1) List.not_mem_nil, u.free b o e fb.1 List.not_mem_nil, fb.2⟩
theorem key_call (F : FnR X.prog X.w X.K X.mg X.base CX n f sp) (hr : Room n X.A.in1.in1) (hx : ∀ outer H s e s', ¬ CX outer H s E0 e s') {H' : Hp} {s' : Shared} {x : V} {u : Value} {Qk : VK} (I : Inv X pins σ H' s') (r : RelV x u) (h : sp [x] H' Qk E0) :
    wpAny (model X.prog X.w) X.A.in1.in1 (call (.ref f) [u]) (fun w s2 => ∃ v H2, Un (frs X.stack) [] H' H2 s'.heap s2.heap ∧ Inv X pins σ H2 s2 ∧ RelV v w ∧ Qk v H2) (fun _ _ => False) s' := by
  refine wpAny_call (codeAny_mono (F X.A.in1.in1 X.stack s' H' [u] [x] Qk E0 hr I.env0.in1.in1 (.cons r .nil) h) fun rr s2 hq => ?_)
  cases rr with
  | error e => exact (hx _ _ _ _ _ hq).elim
  | ok fl =>
    cases fl with
    | next => exact False.elim hq
    | brk => exact False.elim hq
    | cont => exact False.elim hq
    | ret w =>
      obtain ⟨v, H2, os, bare, un, hok, rv, q⟩ := (show CE X.stack X.prog X.w H' _ _ w s2 from hq)
      exact ⟨v, H2, un, I.call' os un hok bare (fun b y => absurd y List.not_mem_nil), rv, q⟩
def KeysIn (k : V → List Int) (H : Hp) : List Value → List V → Prop := Paired fun v x => ∃ p, v = .ref p ∧ H p = some (.tup ((k x).map V.int))
theorem KeysIn.keeps {k : V → List Int} {H H' : Hp} (s : Same H H') {vs : List Value} {xs : List V} (r : KeysIn k H vs xs) : KeysIn k H' vs xs := Paired.mapP r fun v x ⟨p, e, h⟩ => ⟨p, e, s _ _ h⟩
theorem KeysIn.ints {k : V → List Int} {P : Program} {w : World} {h : Heap} (ok : HOk P w H h) {vs : List Value} {xs : List V} (r : KeysIn k H vs xs) : KeyedBy k h vs xs := Paired.mapP r fun v x ⟨p, e, hp⟩ => by
  obtain ⟨_, us, r2, o, ho, hc, m, hd⟩ := ok _ _ hp
  exact ⟨p, o, us, m, e, ho, hc, hd, r2.ints⟩
/-- what is left behind the keys: the sort itself, the list -/
theorem key_end {A : Around} {a kS : Addr} {keys its : List Value} {xs : List V} {e e1 d : Nat} {k : V → List Int} {s : Shared} {R : PySem.Fin → Shared → Prop} {E' : Value → Shared → Prop} (I : Inv X pins σ H s) (fa : FpOk X pins H a) (fk : FpOk X pins H kS) (hka : kS ≠ a)
    (nk : s.heap.get? kS = some (seqObj "list" keys.toArray e)) (na : s.heap.get? a = some (seqObj "list" #[] e1)) (kp : KeysIn k H keys xs) (rv : Vals xs its) (href : ∀ x ∈ xs, ∃ t, x = V.ref t) (hd : ∀ x ∈ xs, (k x).length = d) (hd1 : 1 ≤ d) (hz : xs.length ≤ sizeLine)
    (h : ∀ ys s', Srtd (fun x y => HT.lexLt (k x) (k y)) ys → Stb (fun x y => HT.lexLt (k x) (k y)) ys xs → Inv X pins σ (upd H a (.lst ys)) s' → R (.done (.ret .none)) s') :
    wpAny (model X.prog X.w) A (PyProof.Rows.ksk_end a false its.toArray e1 (.ref kS) keys.toArray) R E' s := by
  obtain ⟨eb, er⟩ := refs_back rv href
  have hl : its.length = xs.length := rv.length.symm
  have hkl : keys.length = xs.length := Paired.length kp
  have kb : KeyedBy k s.heap keys xs := kp.ints I.hok
  have ez : (keys.toArray.zip its.toArray).toList = keys.zip its := PyProof.Rows.ksk_zip _ _
  have hmem : ∀ p ∈ keys.zip its, IsInts s.heap p.1 (k (backV p.2)) ∧ backV p.2 ∈ xs := fun p hp => by
    have q : Paired (fun v u => IsInts s.heap v (k (backV u)) ∧ backV u ∈ xs) keys its := by
      have q2 : Paired (fun v x => IsInts s.heap v (k x) ∧ x ∈ xs) keys (its.map backV) := by
        rw [← eb]
        exact paired_in kb
      exact paired_unmap q2
    exact paired_zip q p hp
  have fin : ∀ st' : SortSt, failedOf st' = none → Srtd (fun p q : Keyed => HT.lexLt (k (backV p.2)) (k (backV q.2))) (arrOf st').toList → Stb (fun p q : Keyed => HT.lexLt (k (backV p.2)) (k (backV q.2))) (arrOf st').toList (keys.zip its) →
      wpAny (model X.prog X.w) A (PyProof.Rows.ksk_tail a false e1 (.ref kS) st') R E' s := by
    intro st' hf h1 h2
    have g1 : Srtd (fun x y => HT.lexLt (k x) (k y)) ((arrOf st').toList.map fun p => backV p.2) := srtd_map h1
    have em : (keys.zip its).map (fun p => backV p.2) = xs := by
      rw [eb]
      have e2 : (keys.zip its).map (fun p => backV p.2) = ((keys.zip its).map Prod.snd).map backV := by rw [List.map_map]; rfl
      rw [e2, List.map_snd_zip (by omega)]
    have g2 : Stb (fun x y => HT.lexLt (k x) (k y)) ((arrOf st').toList.map fun p => backV p.2) xs := by
      have z := Stb.map (lt := fun x y => HT.lexLt (k x) (k y)) (lex_swo k) (fun p : Keyed => backV p.2) h2
      rw [em] at z
      exact z
    have hlo : (arrOf st').toList.length = xs.length := by rw [← g2.len, List.length_map]
    have eo : ((arrOf st').map (·.2)) = ((arrOf st').toList.map (·.2)).toArray := by
      apply Array.ext'
      rw [Array.toList_map]
    have hrefs : ∀ u ∈ (arrOf st').toList.map (·.2), ∃ t, u = Value.ref t := fun u hu => by
      obtain ⟨p, hp, rfl⟩ := List.mem_map.mp hu
      exact er _ (List.of_mem_zip (a := p.1) (b := p.2) (h2.perm.mem_iff.mp hp)).2
    have vb : Vals ((arrOf st').toList.map fun p => backV p.2) ((arrOf st').toList.map fun p : Keyed => p.2) := by
      have q := vals_back hrefs
      rw [List.map_map] at q
      exact q
    unfold PyProof.Rows.ksk_tail
    try dsimp only
    refine wpAny_bind (listUpdate_at nk rfl ?_ (by rw [List.size_toArray, hkl]; exact hz) (Nat.zero_le _))
    refine wpAny_bind (wpAny_letGo ?_)
    have s1 := Heap.SameBut.update s.heap kS (Obj.mapSeq fun _ => (#[] : Array Value))
    have na1 : (s.heap.update kS (Obj.mapSeq fun _ => (#[] : Array Value))).get? a = some (seqObj "list" #[] e1) := (s1.2 a hka.symm).trans na
    refine wpAny_bind (seqEpoch_at na1 rfl ?_)
    refine wpAny_bind (listUpdate_at na1 rfl ?_ (Nat.zero_le _) ?_)
    · rw [hf]
      simp only [bne_self_eq_false, Bool.false_eq_true, if_false]
      have I1 : Inv X pins σ H { s with heap := s.heap.update kS (Obj.mapSeq fun _ => (#[] : Array Value)) } := I.turnedL (t' := s.toks) (ch := [kS]) (fun b o hb e => (s1.2 b (fun z => hb (by rw [z]; exact List.mem_singleton.mpr rfl))).trans e) (fun b hb => by
        rw [List.mem_singleton.mp hb]
        exact fk)
      have s2 := Heap.SameBut.update (s.heap.update kS (Obj.mapSeq fun _ => (#[] : Array Value))) a (Obj.mapSeq fun _ => (arrOf st').map (·.2))
      obtain ⟨c2, hc2⟩ : ∃ c2, ((s.heap.update kS (Obj.mapSeq fun _ => (#[] : Array Value))).update a (Obj.mapSeq fun _ => (arrOf st').map (·.2))).get? a = some (seqObj "list" ((arrOf st').map (·.2)) c2) := ⟨_, get?_update_seq na1 fun _ => (arrOf st').map (·.2)⟩
      refine wpAny_pure (h _ _ g1 g2 (I1.take (t' := s.toks) (it := a) (o := .lst _) (fun b ob hb e => (s2.2 b hb).trans e) fa ⟨by rw [List.length_map, hlo]; exact hz, (arrOf st').toList.map (fun p : Keyed => p.2), c2, vb, ?_⟩))
      rw [← eo]
      exact hc2
    · show ((arrOf st').map (·.2)).size ≤ _
      rw [Array.size_map, ← Array.length_toList, hlo]
      omega
  unfold PyProof.Rows.ksk_end
  try dsimp only
  simp only [Bool.false_eq_true, if_false]
  have lz : (keys.zip its).length = xs.length := by rw [List.length_zip]; omega
  by_cases h2 : its.toArray.size < 2
  · rw [if_pos h2, if_pos h2]
    refine wpAny_bind (wpAny_pure ?_)
    rw [StateT.run_pure]
    refine wpAny_bind (wpAny_pure ?_)
    try dsimp only
    rw [List.size_toArray] at h2
    refine fin (SortSt.mk' general' (keys.toArray.zip its.toArray) #[] 7 none) rfl ?_ (Stb.of_eq ez)
    show Srtd _ (keys.toArray.zip its.toArray).toList
    rw [ez]
    exact srtd_less2 (by omega)
  · rw [if_neg h2, if_neg h2]
    rw [List.size_toArray] at h2
    refine wpAny_bind (leads_kind (by omega) (fun v hv => ?_) ?_)
    · obtain ⟨i, hi, rfl⟩ := List.mem_iff_getElem.mp hv
      obtain ⟨x, ex, hx⟩ := paired_at kb (List.getElem?_eq_getElem hi)
      exact ⟨_, hx.lead, by rw [hd x (List.mem_of_getElem? ex)]; exact hd1⟩
    have hall : AllL (fun p : Keyed => p ∈ keys.zip its) (keys.toArray.zip its.toArray).toList := fun p hm => by
      rw [ez] at hm
      exact hm
    have hcmp : Cmp X.prog X.w A s (tuples' true) (fun p => p ∈ keys.zip its) (fun p q : Keyed => HT.lexLt (k (backV p.2)) (k (backV q.2))) := fun p q hp hq =>
      ints_lt (hmem p hp).1 (hmem q hq).1 (by rw [hd _ (hmem p hp).2, hd _ (hmem q hq).2])
    refine wpAny_bind (wpAny_mono (wpS_sortO (st0 := SortSt.mk' (tuples' true) (keys.toArray.zip its.toArray) #[] 7 none)
      (Q := fun _ st' => Srtd (fun p q : Keyed => HT.lexLt (k (backV p.2)) (k (backV q.2))) (arrOf st').toList ∧ Stb (fun p q : Keyed => HT.lexLt (k (backV p.2)) (k (backV q.2))) (arrOf st').toList (keys.toArray.zip its.toArray).toList ∧ failedOf st' = none)
      (lex_swo fun p : Keyed => k (backV p.2)) hcmp rfl hall rfl rfl fun st' a1 a2 a3 => ⟨a1, a2, a3⟩) ?_ fun _ _ e => e)
    rintro ⟨⟨⟩, st'⟩ s' ⟨rfl, hp1, hp2, hf⟩
    rw [ez] at hp2
    exact fin st' hf hp1 hp2
end
end FR

/-! sorted(xs, key=f), the rule. -/
namespace FR
open PySem PySem.Spec PyProof.Rows L2 SrtO
section
variable {X : Cx} {CX : CXT} {n : Nat} {f : Addr} {sp : Sp} {E0 : XK} {pins : List (Addr × Obj)} {σ : L2.St} {H : Hp}
theorem key_rest {a kS : Addr} {its : List Value} {xs : List V} {e1 d : Nat} {k : V → List Int} {s : Shared} {R : PySem.Fin → Shared → Prop} {E' : Value → Shared → Prop} (F : FnR X.prog X.w X.K X.mg X.base CX n f sp) (hr : Room n X.A.in1.in1) (hx : ∀ outer H s e s', ¬ CX outer H s E0 e s')
    (I : Inv X pins σ H s) (fa : FpOk X pins H a) (fk : FpOk X pins H kS) (hka : kS ≠ a)
    (nk : s.heap.get? kS = some (seqObj "list" #[] 0)) (na : s.heap.get? a = some (seqObj "list" #[] e1)) (rv : Vals xs its) (href : ∀ x ∈ xs, ∃ t, x = V.ref t) (hd : ∀ x ∈ xs, (k x).length = d) (hd1 : 1 ≤ d) (hz : xs.length ≤ sizeLine)
    (hsp : ∀ x ∈ xs, ∀ H', Same H H' → sp [x] H' (fun z H2 => Same H' H2 ∧ ∃ p, z = .ref p ∧ H2 p = some (.tup ((k x).map V.int))) E0)
    (h : ∀ ys H' s', Srtd (fun x y => HT.lexLt (k x) (k y)) ys → Stb (fun x y => HT.lexLt (k x) (k y)) ys xs → Same H H' → H' a = none → Inv X pins σ (upd H' a (.lst ys)) s' → R (.done (.ret .none)) s') :
    wpAny (model X.prog X.w) X.A.in1.in1 (PyProof.Rows.ksk_rest a (.ref f) false its.toArray e1 (.ref kS)) R E' s := by
  have hl : its.length = xs.length := rv.length.symm
  unfold PyProof.Rows.ksk_rest
  refine wpAny_bind (wpAny_rule ?_)
  first
    | rw [List.forIn_toArray]
    | (rw [← Array.forIn_toList]; simp only [List.toList_toArray])
    | rw [← Array.forIn_toList]
  refine wpAny_bind (PyProof.Rows.ksk_fold (fun i s' => ∃ H' ks e, Inv X pins σ H' s' ∧ Same H H' ∧ FpOk X pins H' a ∧ FpOk X pins H' kS ∧ s'.heap.get? kS = some (seqObj "list" (List.toArray ks) e) ∧ s'.heap.get? a = some (seqObj "list" #[] e1) ∧ KeysIn k H' ks (xs.take i)) its 0 s
    ⟨H, [], 0, I, Same.refl H, fa, fk, nk, na, by rw [List.take_zero]; exact .nil⟩ ?step ?done)
  case step =>
    rintro j u s' hu ⟨H', ks, e, I', sm, fa', fk', nk', na', kp⟩
    simp only [Nat.zero_add] at kp ⊢
    obtain ⟨x, hxj, rx⟩ := paired_at2 rv hu
    have hm : x ∈ xs := List.mem_of_getElem? hxj
    have hj : j < xs.length := (List.getElem?_eq_some_iff.mp hxj).1
    refine wpAny_bind (wpAny_attempt (wpAny_mono (key_call F hr hx I' rx (hsp x hm H' sm)) (fun v s2 hv => ?_) fun _ _ hF => hF.elim))
    obtain ⟨z, H2, un, I2, rz, sm2, p, rfl, hp⟩ := hv
    obtain rfl : v = Value.ref p := rz
    try dsimp only
    obtain ⟨nk2, fk2⟩ := un_kept I' un fk' nk'
    obtain ⟨na2, fa2⟩ := un_kept I' un fa' na'
    have hks : ks.length ≤ xs.length := by
      have q := Paired.length kp
      rw [List.length_take] at q
      omega
    have s1 := Heap.SameBut.update s2.heap kS (Obj.mapSeq (·.push (Value.ref p)))
    obtain ⟨c2, hc2⟩ : ∃ c2, (s2.heap.update kS (Obj.mapSeq (·.push (Value.ref p)))).get? kS = some (seqObj "list" (ks.toArray.push (Value.ref p)) c2) := ⟨_, get?_update_seq nk2 (·.push (Value.ref p))⟩
    have ek : xs.take (j + 1) = xs.take j ++ [x] := by rw [List.take_add_one, hxj]; simp
    have ea : ks.toArray.push (Value.ref p) = (ks ++ [Value.ref p]).toArray := by simp
    refine wpAny_bind (listUpdate_at nk2 rfl ?_ (by rw [List.size_toArray]; omega) (by rw [Array.size_push, List.size_toArray]; omega))
    refine wpAny_pure ⟨rfl, H2, ks ++ [Value.ref p], c2, I2.turnedL (t' := s2.toks) (ch := [kS]) (fun b o hb e => (s1.2 b (fun z => hb (by rw [z]; exact List.mem_singleton.mpr rfl))).trans e) (fun b hb => by
      rw [List.mem_singleton.mp hb]
      exact fk2), sm.trans sm2, fa2, fk2, by rw [← ea]; exact hc2, (s1.2 a hka.symm).trans na2, ?_⟩
    rw [ek]
    exact paired_snoc (kp.keeps sm2) ⟨p, rfl, hp⟩
  case done =>
    rintro s' ⟨H', ks, e, I', sm, fa', fk', nk', na', kp⟩
    rw [List.take_of_length_le (by omega)] at kp
    try dsimp only
    refine wpAny_bind (listItems_at nk' rfl ?_)
    exact key_end (d := d) I' fa' fk' hka nk' na' kp rv href hd hd1 hz fun ys s2 g1 g2 I2 => h ys H' s2 g1 g2 sm fa'.1 I2
theorem cr_sortedKey (F : FnR X.prog X.w X.K X.mg X.base CX n f sp) (hr : Room (n + 2) X.A) (hx : ∀ outer H s e s', ¬ CX outer H s E0 e s') : CallRK X (.builtin "sorted") [Str.ofString "key"] (rSortKey X.K sp E0 f) := by
  intro pins s σ H vs zs us ws Q I r rz h
  obtain ⟨a, xs, k, d, rfl, rfl, hs, hd1, href, hkl, hsp, q⟩ := h
  obtain rfl := Vals.ref1 r
  obtain ⟨w1, rfl, e1⟩ := vals1 rz
  obtain rfl : w1 = Value.ref f := e1
  obtain ⟨its, rv, hl, hz⟩ := I.list hs
  have hlen := rv.length
  have hr2 : Room n X.A.in1.in1 := (show Room (n + 1) X.A.in1 from Room.in1 hr).in1
  refine PySem.W.sorted_of_sort hl.isList (by rw [← hlen]; exact hz) (PyProof.Rows.ksk_s1 _ _) (fun _ => PyProof.Rows.ksk_l1 _ _) fun E' => ?_
  show wpAny _ _ (Builtin.«list.sort» ⟨[.ref (s.heap.objs.size + 1)], [(Str.ofString "key", .ref f)]⟩) _ _ _
  rw [PyProof.Rows.ksk_t1]
  have fa : FpOk X pins H (s.heap.objs.size + 1) := I.fpOk (Nat.le_succ _) (I.hok.fresh (Nat.le_succ _))
  have I0 : Inv X pins σ H { s with heap := PySem.W.copyHeap s.heap its } := I.kept (t' := s.toks) fun b u e => PySem.W.copyHeap_old e
  have ho := PySem.W.copyHeap_at s.heap its
  generalize PySem.W.copyHeap s.heap its = h0 at I0 ho
  generalize s.heap.objs.size + 1 = a0 at fa ho ⊢
  have ha : a0 < h0.objs.size := Heap.lt_size ho
  obtain ⟨e1, ho1⟩ : ∃ e1, (h0.update a0 (Obj.mapSeq fun _ => (#[] : Array Value))).get? a0 = some (seqObj "list" #[] e1) := ⟨_, get?_update_seq ho fun _ => #[]⟩
  have hkS : ((h0.update a0 (Obj.mapSeq fun _ => (#[] : Array Value))).push (seqObj "tuple" its.toArray 0)).objs.size = h0.objs.size + 1 := by rw [PyProof.Rows.size_push', Heap.size_update]
  unfold PyProof.Rows.ksk_tree
  refine wpAny_bind (listItems_at (s := { s with heap := h0 }) ho rfl ?_)
  refine wpAny_bind (listUpdate_at (s := { s with heap := h0 }) ho rfl ?_ (by rw [List.size_toArray, ← hlen]; exact hz) (Nat.zero_le _))
  refine wpAny_bind (seqEpoch_at ho1 rfl ?_)
  refine wpAny_bind (wpAny_newTuple ?_ (by show its.length ≤ _; rw [← hlen]; exact hz))
  refine wpAny_bind (wpAny_newList ?_ (Nat.zero_le _))
  refine wpAny_holding ?_
  have fk : FpOk X pins H ((h0.update a0 (Obj.mapSeq fun _ => (#[] : Array Value))).push (seqObj "tuple" its.toArray 0)).objs.size := by
    rw [hkS]
    exact I0.fpOk (Nat.le_succ _) (I0.hok.fresh (Nat.le_succ _))
  have I1 : Inv X pins σ H { s with heap := ((h0.update a0 (Obj.mapSeq fun _ => (#[] : Array Value))).push (seqObj "tuple" its.toArray 0)).push (seqObj "list" #[] 0) } := Inv.turnedL (s := { s with heap := h0 }) (t' := s.toks) (ch := [a0]) I0 (fun b o hb e => by
    refine Heap.get?_push_of_some _ (Heap.get?_push_of_some _ ?_)
    rw [Heap.get?_update_ne _ _ _ _ (fun z => hb (by rw [z]; exact List.mem_singleton.mpr rfl))]
    exact e) (fun b hb => by
    rw [List.mem_singleton.mp hb]
    exact fa)
  exact key_rest (d := d) F hr2 hx I1 fa fk (by rw [hkS]; exact Nat.ne_of_gt (Nat.lt_succ_of_lt ha)) (Heap.get?_push_size _ rfl) (Heap.get?_push_of_some _ (Heap.get?_push_of_some _ ho1)) rv href hkl hd1 hz hsp fun ys H' s' g1 g2 sm hn I' => ⟨rfl, .ref a0, _, I', rfl, q ys a0 H' g1 g2 sm hn fa.1⟩
end
end FR

/-! sorted(xs), xs tuples that begin with ints that tell them apart. -/
namespace FR
open PySem PySem.Spec PyProof.Rows L2 SrtO
section
variable {prog : Program} {w : World} {A : Around} {E : Value → Shared → Prop} {s : Shared}
theorem leads_sortableO {a : Addr} {vs : List Value} {k : Value → List Int} {d : Nat} (h0 : 0 < vs.length) (h1 : 1 ≤ d) (hp : ∀ v ∈ vs, Lead s.heap v (k v)) (hd : ∀ v ∈ vs, (k v).length = d) (hu : ∀ v ∈ vs, ∀ u ∈ vs, k v = k u → v = u) (ha : ∀ o, s.heap.get? a = some o → o.cls ≠ .type "tuple") :
    SortableO prog w A s a vs fun v u => HT.lexLt (k v) (k u) := by
  intro h' keep
  have hp' : ∀ v ∈ vs, Lead h' v (k v) := fun v hm => (hp v hm).keeps fun b o e c => keep b o (fun z => by subst z; exact ha o e c) e
  exact ⟨tuples' true, fun Q E hq => leads_kind (s := { s with heap := h' }) h0 (fun v hv => ⟨k v, hp' v hv, by rw [hd v hv]; exact h1⟩) hq, lead_cmp (s := { s with heap := h' }) hp' hd hu⟩
end
def rSortedL (K : PySem.W.Frag) : List V → Hp → VK → Prop := fun vs H Q => ∃ (a : Addr) (xs : List V) (k : V → List Int) (d : Nat), vs = [V.ref a] ∧ SqL K H a xs ∧ 1 ≤ d ∧ (∀ x ∈ xs, ∃ t rs, x = V.ref t ∧ H t = some (.tup ((k x).map V.int ++ rs))) ∧ (∀ x ∈ xs, (k x).length = d) ∧
  (∀ x ∈ xs, ∀ y ∈ xs, k x = k y → x = y) ∧ ∀ ys p, Srtd (fun x y => HT.lexLt (k x) (k y)) ys → Stb (fun x y => HT.lexLt (k x) (k y)) ys xs → H p = none → Q (.ref p) (upd H p (.lst ys))
theorem ints_split : ∀ {ns : List Int} {rs : List V} {us : List Value}, Vals (ns.map V.int ++ rs) us → ∃ us1 us2, us = us1 ++ us2 ∧ IntsAre us1 ns
  | [], _, us, _ => ⟨[], us, rfl, .nil⟩
  | n :: ns, rs, _, .cons ⟨t, e⟩ r => by
    obtain ⟨u1, u2, e2, h⟩ := ints_split (ns := ns) r
    exact ⟨.int n t :: u1, u2, by rw [e, e2]; rfl, .cons n t h⟩
section
variable {X : Cx}
theorem cr_sortedL : CallR X (.builtin "sorted") (rSortedL X.K) := by
  intro pins s σ H vs us Q I r h
  obtain ⟨a, xs, k, d, rfl, hs, h1, hx, hd, hu, q⟩ := h
  obtain ⟨its, rv, hl, hz⟩ := I.list hs
  obtain rfl := Vals.ref1 r
  obtain ⟨e1, e2⟩ := refs_back rv fun x m => by
    obtain ⟨t, _, e, _⟩ := hx x m
    exact ⟨t, e⟩
  have hin : ∀ v ∈ its, backV v ∈ xs := fun v hv => by rw [e1]; exact List.mem_map.mpr ⟨_, hv, rfl⟩
  have hp : ∀ v ∈ its, Lead s.heap v (k (backV v)) := fun v hv => by
    obtain ⟨t, rfl⟩ := e2 v hv
    obtain ⟨t', rs, e, ht⟩ := hx _ (hin _ hv)
    cases e
    obtain ⟨_, its2, r2, o, ho, hc, n, hdt⟩ := I.hok _ _ ht
    obtain ⟨u1, u2, rfl, hi⟩ := ints_split r2
    exact ⟨t, o, u1, u2, n, rfl, ho, hc, hdt, hi⟩
  refine sorted_ord (lex_swo fun v => k (backV v)) hl.isList (by rw [← rv.length]; exact hz) (fun h2 h₁ a ha kk => ?_) fun out hs2 hb => ?_
  · refine leads_sortableO (s := { s with heap := h₁ }) (d := d) (k := fun v => k (backV v)) (by omega) h1 (fun v hm => (hp v hm).keeps fun b o e _ => (kk b o e).2) (fun v hm => hd _ (hin v hm)) (fun v hv u hw e => ?_) fun o e => ?_
    · obtain ⟨t, rfl⟩ := e2 v hv
      obtain ⟨t', rfl⟩ := e2 u hw
      have q2 := hu _ (hin _ hv) _ (hin _ hw) e
      cases q2
      rfl
    · have e' : some o = some (seqObj "list" its.toArray 0) := e.symm.trans ha
      cases e'
      intro c
      exact absurd (Value.type.inj c) (by decide)
  · have h3 : ∀ u ∈ out, ∃ a, u = Value.ref a := fun u hu => e2 u (hb.perm.mem_iff.mp hu)
    obtain ⟨n, hn⟩ := sortedAll_at s.heap its out.toArray
    have hb2 : Stb (fun x y => HT.lexLt (k x) (k y)) (out.map backV) xs := by
      rw [e1]
      exact Stb.map (lt := fun x y => HT.lexLt (k x) (k y)) (lex_swo k) backV hb
    refine ⟨.ref (s.heap.objs.size + 1), upd H (s.heap.objs.size + 1) (.lst (out.map backV)), I.laid (t' := s.toks) (fun b o e => sortedAll_old e) (Nat.le_succ _) ⟨?_, out, n, vals_back h3, hn⟩, rfl, q _ _ (srtd_map hs2) hb2 (I.hok.fresh (Nat.le_succ _))⟩
    rw [hb2.len]
    exact hz
end
end FR

/-! Deeds by their places, lists of them, their order. -/
namespace FR
open PySem PySem.Spec PyProof.Rows L2 SrtO
def Act.mark (a : Act) : Int × Int := (a.who, a.num)
def Act.place (a : Act) : List Int := [a.note.sum, a.who, a.num]
theorem What.vs_inj : ∀ {a b : What}, a.vs = b.vs → a = b := by
  intro a b h
  cases a <;> cases b <;> simp [What.vs] at h ⊢ <;> first | exact h | exact absurd h.1 (by decide +kernel)
theorem ints_inj : ∀ {a b : List Int}, a.map V.int = b.map V.int → a = b
  | [], [], _ => rfl
  | [], _ :: _, h => nomatch h
  | _ :: _, [], h => nomatch h
  | x :: a, y :: b, h => by
    rw [List.map_cons, List.map_cons] at h
    injection h with h1 h2
    injection h1 with h1
    rw [h1, ints_inj h2]
theorem ActAt.inj {H : Hp} {p : Addr} {a b : Act} (h : ActAt H p a) (k : ActAt H p b) : a = b := by
  obtain ⟨n, q, h1, h2, h3⟩ := h
  obtain ⟨n', q', k1, k2, k3⟩ := k
  rw [h1] at k1
  injection k1 with k1
  injection k1 with k1
  injection k1 with e1 k1
  injection k1 with e2 k1
  injection k1 with e3 k1
  injection k1 with e4 k1
  injection e1 with e1
  injection e2 with e2
  injection e3 with e3
  injection e4 with e4
  subst e3 e4
  rw [h2] at k2
  injection k2 with k2
  injection k2 with k2
  rw [h3] at k3
  injection k3 with k3
  injection k3 with k3
  obtain ⟨w, nn, nt, wt⟩ := a
  obtain ⟨w', nn', nt', wt'⟩ := b
  simp only at e1 e2 k2 k3
  rw [e1, e2, ints_inj k2, What.vs_inj k3]
instance : Nonempty Act := ⟨⟨0, 0, [], .use "" ""⟩⟩
noncomputable def actOf (H : Hp) (p : Addr) : Act := Classical.epsilon fun a => ActAt H p a
theorem actOf_eq {H : Hp} {p : Addr} {a : Act} (h : ActAt H p a) : actOf H p = a := ActAt.inj (Classical.epsilon_spec (p := fun a => ActAt H p a) ⟨a, h⟩) h
/-- at each of the places stands its deed -/
def Acts (A : Addr → Act) (H : Hp) (ps : List Addr) : Prop := ∀ p ∈ ps, ActAt H p (A p) ∧ (A p).what.Fit
section
variable {A : Addr → Act} {H H' : Hp} {ps qs : List Addr} {S : List Addr}
theorem Acts.keep (h : Acts A H ps) (k : Kp S H H') : Acts A H' ps := fun p m => ⟨(h p m).1.keep k, (h p m).2⟩
theorem Acts.sub (h : Acts A H ps) (k : ∀ q ∈ qs, q ∈ ps) : Acts A H qs := fun q m => h q (k q m)
theorem Acts.perm (h : Acts A H ps) (k : qs.Perm ps) : Acts A H qs := h.sub fun q m => k.mem_iff.mp m
theorem acts_of {as : List Act} (h : ActsAt H ps as) (hf : ∀ a ∈ as, a.what.Fit) : Acts (actOf H) H ps ∧ as = ps.map (actOf H) := by
  induction h with
  | nil => exact ⟨fun p m => by simp at m, rfl⟩
  | cons r t ih =>
    obtain ⟨i1, i2⟩ := ih fun a m => hf a (List.mem_cons_of_mem _ m)
    have e := actOf_eq r
    refine ⟨fun p m => ?_, ?_⟩
    · rcases List.mem_cons.mp m with rfl | m
      · rw [e]
        exact ⟨r, hf _ (List.mem_cons_self ..)⟩
      · exact i1 p m
    · rw [List.map_cons, e, ← i2]
theorem Acts.dp {K : PySem.W.Frag} : ∀ {ps : List Addr}, Acts A H ps → DpAll K H (ps.map V.ref) (ps.map fun p => (A p).data)
  | [], _ => .nil
  | p :: ps, h => .cons (h p (List.mem_cons_self ..)).1.dp (Acts.dp fun q m => h q (List.mem_cons_of_mem _ m))
def decks (A : Addr → Act) (ps : List Addr) : PyData := .list (ps.map fun p => (A p).data)
theorem decks_lay : ∀ {ps : List Addr}, (∀ p ∈ ps, (A p).what.Fit) → PyData.canLayAll0 (ps.map fun p => (A p).data) = true ∧ PyData.depthAll (ps.map fun p => (A p).data) ≤ 3
  | [], _ => ⟨rfl, by simp [PyData.depthAll]⟩
  | p :: ps, h => by
    obtain ⟨i1, i2⟩ := decks_lay (ps := ps) fun q m => h q (List.mem_cons_of_mem _ m)
    have q := Act.shaped (h p (List.mem_cons_self ..))
    have h2 := PySem.W.depthAll_ints (A p).note
    have h4 := (A p).what.deep
    unfold SeqAt.shaped at q
    rw [Bool.and_eq_true] at q
    refine ⟨?_, ?_⟩
    · rw [List.map_cons]
      simp only [PyData.canLayAll0, q.1, i1, Bool.and_self]
    · rw [List.map_cons, PyData.depthAll]
      have e : (A p).data.depth ≤ 3 := by
        unfold Act.data
        simp only [PyData.depth, PyData.depthAll]
        omega
      omega
theorem decks_shaped (h : ∀ p ∈ ps, (A p).what.Fit) : SeqAt.shaped (decks A ps) = true := by
  obtain ⟨h1, h2⟩ := decks_lay h
  unfold SeqAt.shaped decks
  rw [Bool.and_eq_true]
  refine ⟨?_, decide_eq_true ?_⟩
  · simp only [PyData.canLay0, h1]
  · simp only [PyData.depth]
    omega
theorem Acts.fit (h : Acts A H ps) : ∀ p ∈ ps, (A p).what.Fit := fun p m => (h p m).2
theorem decks_eqv (h : ∀ p ∈ ps, (A p).what.Fit) : PyData.eqv (decks A ps) (decks A ps) = true := SeqAt.eqv_refl _ (SeqAt.canLay_of_shaped (decks_shaped h))
theorem Acts.deck {K : PySem.W.Frag} {a : Addr} (h : Acts A H ps) (ha : H a = some (.lst (ps.map V.ref))) : Dp K H (.ref a) (decks A ps) := .lst (sqL ha) h.dp
theorem decks_nil : ∀ {ps : List Addr}, PyData.eqv (decks A ps) (.list []) = ps.isEmpty
  | [] => rfl
  | _ :: _ => rfl
end
def refA : V → Addr
  | .ref a => a
  | _ => 0
theorem refA_map : ∀ ps : List Addr, (ps.map V.ref).map refA = ps
  | [] => rfl
  | p :: ps => by rw [List.map_cons, List.map_cons, refA_map ps]; rfl
theorem perm_refs {ys : List V} {ps : List Addr} (h : ys.Perm (ps.map V.ref)) : ∃ qs : List Addr, ys = qs.map V.ref ∧ qs.Perm ps := by
  refine ⟨ys.map refA, ?_, by have q := h.map refA; rw [refA_map] at q; exact q⟩
  rw [List.map_map]
  have e : ∀ y ∈ ys, (V.ref ∘ refA) y = y := fun y m => by
    obtain ⟨p, _, rfl⟩ := List.mem_map.mp (h.mem_iff.mp m)
    rfl
  have e2 : ys.map (V.ref ∘ refA) = ys.map id := List.map_congr_left e
  rw [e2, List.map_id]
theorem perm_const {α : Type} {l m : List α} (h : l.Perm m) (e : ∀ x ∈ l, ∀ y ∈ l, x = y) : l = m := by
  cases l with
  | nil => exact (h.symm.eq_nil).symm
  | cons x t =>
    have h1 : x :: t = List.replicate (x :: t).length x := List.eq_replicate_iff.mpr ⟨rfl, fun y m => e y m x (List.mem_cons_self ..)⟩
    have h2 : m = List.replicate m.length x := List.eq_replicate_iff.mpr ⟨rfl, fun y my => e y (h.mem_iff.mpr my) x (List.mem_cons_self ..)⟩
    rw [h1, h2, h.length_eq]
/-- two rearrangements in order are one, where the keys tell all apart -/
theorem srt_uniq {α : Type} {k : α → List Int} {l m : List α} (h : l.Perm m) (hl : Srtd (fun x y => HT.lexLt (k x) (k y)) l) (hm : Srtd (fun x y => HT.lexLt (k x) (k y)) m) (inj : ∀ x ∈ l, ∀ y ∈ l, k x = k y → x = y) : l = m := by
  refine stb_uniq (lt := fun x y => HT.lexLt (k x) (k y)) (lex_swo k) hl hm ⟨h, fun x => perm_const (h.filter _) fun y my z mz => ?_⟩
  obtain ⟨y1, y2⟩ := List.mem_filter.mp my
  obtain ⟨z1, z2⟩ := List.mem_filter.mp mz
  have ey := eqv_iff.mp y2
  have ez := eqv_iff.mp z2
  exact inj y y1 z z1 ((lex_tot _ _ ey.2 ey.1).trans (lex_tot _ _ ez.1 ez.2))
def spPlace : Sp := fun vs H Q _ => ∃ (p : Addr) (a : Act), vs = [.ref p] ∧ ActAt H p a ∧ ∀ (q : Addr) (H' : Hp), Same H H' → H q = none → H' q = some (.tup (a.place.map V.int)) → Q (.ref q) H'
abbrev Placed (A : Addr → Act) (qs : List Addr) : Prop := Srtd (fun (x y : Addr) => HT.lexLt (A x).place (A y).place) qs
def spIn (K : PySem.W.Frag) : Sp := fun vs H Q _ => ∃ (l : Addr) (ps : List Addr) (A : Addr → Act), vs = [.ref l] ∧ SqL K H l (ps.map V.ref) ∧ Acts A H ps ∧ ∀ (q : Addr) (qs : List Addr) (H' : Hp), Same H H' → H q = none → H' q = some (.lst (qs.map V.ref)) → qs.Perm ps → Placed A qs → Q (.ref q) H'
end FR

namespace FR
open PySem
/-- the built-in names that nobody has bound -/
structure Blt (mg : Str → Option Value) : Prop where
  len : mg "len" = none
  range : mg "range" = none
  isi : mg "isinstance" = none
  bool : mg "bool" = none
  int : mg "int" = none
  str : mg "str" = none
  list : mg "list" = none
  tuple : mg "tuple" = none
  sum : mg "sum" = none
  sorted : mg "sorted" = none
  set : mg "set" = none
  max : mg "max" = none
  zip : mg "zip" = none
end FR

namespace FR
open PySem PySem.Spec PyProof.Rows L2
abbrev sAlike : Stmt := top 18
section
variable {P : Program} {w : World} {K : PySem.W.Frag} {mg : Str → Option Value} {base : Heap}
theorem scAlike : FnScope ["found", "due", "k"] ["found", "due"] (defScope sAlike) := ⟨rfl, rfl, rfl, by decide +kernel, rfl, by decide +kernel, by decide +kernel⟩
theorem ok_alike {n : Nat} {f : Addr} {fd : FuncData} (F : Fun K "_law_alike" "_law_alike" sAlike f fd) (G : Cal P w K mg base n "_law_alike" ["found", "due"] (spAlike n) f fd) (B : Blt mg) : FnOk P w K mg base CX0 (n + 1) f fd ["found", "due"] (spAlike (n + 1)) := by
  refine F.ok scAlike (fun vs H Q E h => ?_) (fun cdv A outer s H vs Q E hr h => ?_)
  · obtain ⟨x, y, rfl, _⟩ := h
    rfl
  obtain ⟨x, y, rfl, hal, q⟩ := h
  refine ⟨_, pss_cons (ps_if (pt_cmpR op_isN (pv 1) pe_non (nomark _)) (pss_one (ps_ret (pe_cmpR op_isN (pv 0) pe_non (nomark _)))) pss_nil)
    (pss_cons (ps_if (pt_val (pe_callB call_isi (by rfl) B.isi (by decide +kernel) (pa_cons (pv 1) (pa_cons (pe_bltn (v := .ty "bool") (u := .type "bool") (by rfl) B.bool (by decide +kernel) rfl) pa_nil))))
      (pss_one (ps_ret (pe_and (pe_callB call_isi (by rfl) B.isi (by decide +kernel) (pa_cons (pv 0) (pa_cons (pe_bltn (v := .ty "bool") (u := .type "bool") (by rfl) B.bool (by decide +kernel) rfl) pa_nil))) (pe_one (pe_cmpR op_eq (pv 0) (pv 1) (nomark _)))))) pss_nil)
    (pss_cons (ps_if (pt_val (pe_callB call_isi (by rfl) B.isi (by decide +kernel) (pa_cons (pv 1) (pa_cons (pe_bltn (v := .ty "int") (u := .type "int") (by rfl) B.int (by decide +kernel) rfl) pa_nil))))
      (pss_one (ps_ret (pe_and (pe_callB call_isi (by rfl) B.isi (by decide +kernel) (pa_cons (pv 0) (pa_cons (pe_bltn (v := .ty "int") (u := .type "int") (by rfl) B.int (by decide +kernel) rfl) pa_nil)))
        (pe_and (pe_not (pe_callB call_isi (by rfl) B.isi (by decide +kernel) (pa_cons (pv 0) (pa_cons (pe_bltn (v := .ty "bool") (u := .type "bool") (by rfl) B.bool (by decide +kernel) rfl) pa_nil)))) (pe_one (pe_cmpR op_eq (pv 0) (pv 1) (nomark _))))))) pss_nil)
    (pss_cons (ps_if (pt_val (pe_callB call_isi (by rfl) B.isi (by decide +kernel) (pa_cons (pv 1) (pa_cons (pe_bltn (v := .ty "str") (u := .type "str") (by rfl) B.str (by decide +kernel) rfl) pa_nil))))
      (pss_one (ps_ret (pe_and (pe_callB call_isi (by rfl) B.isi (by decide +kernel) (pa_cons (pv 0) (pa_cons (pe_bltn (v := .ty "str") (u := .type "str") (by rfl) B.str (by decide +kernel) rfl) pa_nil))) (pe_one (pe_cmpR op_eq (pv 0) (pv 1) (nomark _)))))) pss_nil)
    (pss_cons (ps_if (PW.pt (pw_or (pt_cmpR op_ne (pe_callB call_isi (by rfl) B.isi (by decide +kernel) (pa_cons (pv 0) (pa_cons (pe_bltn (v := .ty "list") (u := .type "list") (by rfl) B.list (by decide +kernel) rfl) pa_nil)))
          (pe_callB call_isi (by rfl) B.isi (by decide +kernel) (pa_cons (pv 1) (pa_cons (pe_bltn (v := .ty "list") (u := .type "list") (by rfl) B.list (by decide +kernel) rfl) pa_nil))) (nomark _))
        (pw_or1 (pt_cmpR op_ne (pe_callB call_isi (by rfl) B.isi (by decide +kernel) (pa_cons (pv 0) (pa_cons (pe_bltn (v := .ty "tuple") (u := .type "tuple") (by rfl) B.tuple (by decide +kernel) rfl) pa_nil)))
          (pe_callB call_isi (by rfl) B.isi (by decide +kernel) (pa_cons (pv 1) (pa_cons (pe_bltn (v := .ty "tuple") (u := .type "tuple") (by rfl) B.tuple (by decide +kernel) rfl) pa_nil))) (nomark _))))) (pss_one (ps_ret pe_bl)) pss_nil)
    (pss_cons (ps_if (pt_cmpR op_ne (pe_callB call_len_seq (by rfl) B.len PySem.boot_len (pa_cons (pv 0) pa_nil)) (pe_callB call_len_seq (by rfl) B.len PySem.boot_len (pa_cons (pv 1) pa_nil)) (nomark _)) (pss_one (ps_ret pe_bl)) pss_nil)
    (pss_cons (ps_for PassesOwn.never rfl (pi_range1 (by rfl) B.range (pa_cons (pe_callB call_len_seq (by rfl) B.len PySem.boot_len (pa_cons (pv 1) pa_nil)) pa_nil)) (pg_name (i := 2) scAlike.nd rfl (.inl rfl))
      (pss_one (ps_if (pt_not (pt_val (pe_call G.ok hr (by rfl) G.m G.kp G.b .nil pass0 (pa_cons (pe_ix ix_seq (pv 0) (pv 2) (fun _ _ => rfl)) (pa_cons (pe_ix ix_seq (pv 1) (pv 2) (fun _ _ => rfl)) pa_nil))))) (pss_one (ps_ret pe_bl)) pss_nil)))
    (pss_one (ps_ret pe_bl)))))))), ?_⟩
  refine ⟨_, rfl, rfl, _, rfl, ?_⟩
  rcases hal with ⟨rfl, hp⟩ | ⟨a, b, xs, ys, rfl, rfl, hab, hl, hn, hf⟩
  · cases x with
    | non => exact iteT ⟨_, rfl, rfl, q _ (Same.refl _)⟩
    | bl c =>
      refine iteF ⟨_, rfl, _, _, _, _, true, rfl, .ty _, .base (.bl c), kit_ty (by decide +kernel), _, rfl, iteT ⟨_, rfl, _, _, _, _, true, rfl, .ty _, .base (.bl c), kit_ty (by decide +kernel), _, rfl, iteT ⟨_, rfl, _, rfl, rfl, ?_⟩⟩⟩
      rw [decide_eq_true rfl]
      exact q _ (Same.refl _)
    | int c =>
      refine iteF ⟨_, rfl, _, _, _, _, false, rfl, .ty _, .base (.int c), kit_ty (by decide +kernel), _, rfl, iteF ⟨_, rfl, _, _, _, _, true, rfl, .ty _, .base (.int c), kit_ty (by decide +kernel), _, rfl, iteT ⟨_, rfl, _, _, _, _, true, rfl, .ty _, .base (.int c), kit_ty (by decide +kernel), _, rfl, iteT ⟨_, rfl, _, _, _, _, false, rfl, .ty _, .base (.int c), kit_ty (by decide +kernel), _, rfl, _, rfl, iteT ⟨_, rfl, _, rfl, rfl, ?_⟩⟩⟩⟩⟩
      rw [decide_eq_true rfl]
      exact q _ (Same.refl _)
    | str c =>
      refine iteF ⟨_, rfl, _, _, _, _, false, rfl, .ty _, .base (.str c), kit_ty (by decide +kernel), _, rfl, iteF ⟨_, rfl, _, _, _, _, false, rfl, .ty _, .base (.str c), kit_ty (by decide +kernel), _, rfl, iteF ⟨_, rfl, _, _, _, _, true, rfl, .ty _, .base (.str c), kit_ty (by decide +kernel), _, rfl, iteT ⟨_, rfl, _, _, _, _, true, rfl, .ty _, .base (.str c), kit_ty (by decide +kernel), _, rfl, iteT ⟨_, rfl, _, rfl, rfl, ?_⟩⟩⟩⟩⟩
      rw [decide_eq_true rfl]
      exact q _ (Same.refl _)
    | byt c => cases hp
    | flt c => cases hp
    | ref c => cases hp
    | ty c => cases hp
  · rcases hab with ⟨h1, h2⟩ | ⟨h1, h2⟩
    · -- lists
      refine iteF ⟨_, rfl, _, _, _, _, false, rfl, .ty _, .base (.lst h2), kit_ty (by decide +kernel), _, rfl, iteF ⟨_, rfl, _, _, _, _, false, rfl, .ty _, .base (.lst h2), kit_ty (by decide +kernel), _, rfl, iteF ⟨_, rfl, _, _, _, _, false, rfl, .ty _, .base (.lst h2), kit_ty (by decide +kernel), _, rfl, iteF ?_⟩⟩⟩
      refine ⟨_, rfl, _, _, _, _, true, rfl, .ty _, .base (.lst h1), kit_ty (by decide +kernel), _, rfl, _, _, _, _, true, rfl, .ty _, .base (.lst h2), kit_ty (by decide +kernel), rfl, _, rfl, iteNS rfl ?_⟩
      refine ⟨_, rfl, _, _, _, _, false, rfl, .ty _, .base (.lst h1), kit_ty (by decide +kernel), _, rfl, _, _, _, _, false, rfl, .ty _, .base (.lst h2), kit_ty (by decide +kernel), rfl, _, rfl, iteNS rfl ?_⟩
      refine ⟨_, rfl, a, xs, rfl, .inl (sqL h1), _, rfl, b, ys, rfl, .inl (sqL h2), rfl, _, rfl, iteNS (by rw [hl]) ?_⟩
      refine ⟨_, rfl, b, ys, rfl, .inl (sqL h2), _, rfl, by omega, by omega, for_range (lo := 0) (n := ((ys.length : Nat) : Int).toNat) (fun i σ H' => ∃ v, σ = [some (.ref a), some (.ref b), v] ∧ Same H H') ⟨none, rfl, .refl _⟩ ?_ ?_⟩
      · rintro i σ H1 hi ⟨v, rfl, s1⟩
        obtain ⟨u1, e1⟩ := get_some (l := xs) (i := i) (by omega)
        obtain ⟨u2, e2⟩ := get_some (l := ys) (i := i) (by omega)
        refine ⟨_, rfl, _, rfl, .inl ⟨a, xs, _, u1, rfl, rfl, sqL (s1 _ _ h1), at_of (by omega) e1, _, rfl, _, rfl, .inl ⟨b, ys, _, u2, rfl, rfl, sqL (s1 _ _ h2), at_of (by omega) e2, u1, u2, rfl, (hf i u1 u2 e1 e2).same s1, fun H2 s2 => ⟨true, rfl, iteF ⟨_, rfl, s1.trans s2⟩⟩⟩⟩⟩
      · rintro σ H1 ⟨v, rfl, s1⟩
        exact q _ s1
    · -- tuples
      refine iteF ⟨_, rfl, _, _, _, _, false, rfl, .ty _, .base (.tup h2), kit_ty (by decide +kernel), _, rfl, iteF ⟨_, rfl, _, _, _, _, false, rfl, .ty _, .base (.tup h2), kit_ty (by decide +kernel), _, rfl, iteF ⟨_, rfl, _, _, _, _, false, rfl, .ty _, .base (.tup h2), kit_ty (by decide +kernel), _, rfl, iteF ?_⟩⟩⟩
      refine ⟨_, rfl, _, _, _, _, false, rfl, .ty _, .base (.tup h1), kit_ty (by decide +kernel), _, rfl, _, _, _, _, false, rfl, .ty _, .base (.tup h2), kit_ty (by decide +kernel), rfl, _, rfl, iteNS rfl ?_⟩
      refine ⟨_, rfl, _, _, _, _, true, rfl, .ty _, .base (.tup h1), kit_ty (by decide +kernel), _, rfl, _, _, _, _, true, rfl, .ty _, .base (.tup h2), kit_ty (by decide +kernel), rfl, _, rfl, iteNS rfl ?_⟩
      refine ⟨_, rfl, a, xs, rfl, .inr (sqT h1), _, rfl, b, ys, rfl, .inr (sqT h2), rfl, _, rfl, iteNS (by rw [hl]) ?_⟩
      refine ⟨_, rfl, b, ys, rfl, .inr (sqT h2), _, rfl, by omega, by omega, for_range (lo := 0) (n := ((ys.length : Nat) : Int).toNat) (fun i σ H' => ∃ v, σ = [some (.ref a), some (.ref b), v] ∧ Same H H') ⟨none, rfl, .refl _⟩ ?_ ?_⟩
      · rintro i σ H1 hi ⟨v, rfl, s1⟩
        obtain ⟨u1, e1⟩ := get_some (l := xs) (i := i) (by omega)
        obtain ⟨u2, e2⟩ := get_some (l := ys) (i := i) (by omega)
        refine ⟨_, rfl, _, rfl, .inr (.inl ⟨a, xs, _, u1, rfl, rfl, sqT (s1 _ _ h1), at_of (by omega) e1, _, rfl, _, rfl, .inr (.inl ⟨b, ys, _, u2, rfl, rfl, sqT (s1 _ _ h2), at_of (by omega) e2, u1, u2, rfl, (hf i u1 u2 e1 e2).same s1, fun H2 s2 => ⟨true, rfl, iteF ⟨_, rfl, s1.trans s2⟩⟩⟩)⟩)⟩
      · rintro σ H1 ⟨v, rfl, s1⟩
        exact q _ s1
end
end FR

/-! What is true of the deeds of a world. -/
namespace FR
open PySem PySem.Spec PyProof.Rows L2
theorem zip_get {f : Int → Int → Int} {r s : List Int} {i : Nat} {x : Int} (h : (List.zipWith f r s)[i]? = some x) : ∃ a b, r[i]? = some a ∧ s[i]? = some b ∧ x = f a b := by
  rw [List.getElem?_zipWith] at h
  cases h1 : r[i]? with
  | none => rw [h1] at h; simp at h
  | some a =>
    cases h2 : s[i]? with
    | none => rw [h1, h2] at h; simp at h
    | some b =>
      rw [h1, h2] at h
      exact ⟨a, b, rfl, rfl, (Option.some.inj h).symm⟩
theorem snoc_nodup {α : Type} {l : List α} {x : α} (h : l.Nodup) (n : x ∉ l) : (l ++ [x]).Nodup := by
  rw [List.nodup_append]
  refine ⟨h, by simp, fun y my z mz => ?_⟩
  rw [List.mem_singleton.mp mz]
  exact fun e => n (e ▸ my)
/-- each deed's author knows of it -/
theorem Wd.own {many : Nat} {acts : List Act} {known : List (List Int)} (h : Wd many acts known) :
    (∀ a ∈ acts, ∃ (i : Nat) (r : List Int) (y : Int), a.who = (i : Int) ∧ known[i]? = some r ∧ r[i]? = some y ∧ a.num ≤ y) ∧ (acts.map Act.mark).Nodup := by
  induction h with
  | nil => exact ⟨fun a m => by simp at m, by simp⟩
  | @step acts known i row row' c wt w hi hr hc ok ih =>
    obtain ⟨ih1, ih2⟩ := ih
    have hil : i < known.length := (List.getElem?_eq_some_iff.mp hi).1
    have hcl : i < row'.length := (List.getElem?_eq_some_iff.mp hc).1
    have ge : ∀ y, row[i]? = some y → y ≤ c := fun y hy => by
      rcases hr with rfl | ⟨j, ro, hj, rfl⟩
      · rw [hc] at hy
        cases hy
        exact Int.le_refl _
      · obtain ⟨a, b, h1, h2, e⟩ := zip_get hc
        rw [h1] at hy
        cases hy
        omega
    have hn : (known.set i (row'.set i (c + 1)))[i]? = some (row'.set i (c + 1)) := by rw [List.getElem?_set_self hil]
    have hn2 : (row'.set i (c + 1))[i]? = some (c + 1) := by rw [List.getElem?_set_self hcl]
    refine ⟨fun a m => ?_, ?_⟩
    · rcases List.mem_append.mp m with m | m
      · obtain ⟨k, r, y, e, hk, hy, le⟩ := ih1 a m
        by_cases ki : k = i
        · subst ki
          rw [hi] at hk
          cases hk
          exact ⟨k, _, c + 1, e, hn, hn2, by have := ge y hy; omega⟩
        · exact ⟨k, r, y, e, by rw [List.getElem?_set_ne (fun z => ki z.symm)]; exact hk, hy, le⟩
      · rw [List.mem_singleton.mp m]
        exact ⟨i, _, c + 1, rfl, hn, hn2, Int.le_refl _⟩
    · rw [List.map_append]
      refine snoc_nodup ih2 fun m => ?_
      obtain ⟨a, ma, ea⟩ := List.mem_map.mp m
      obtain ⟨k, r, y, e, hk, hy, le⟩ := ih1 a ma
      have e1 : a.who = (i : Int) := congrArg Prod.fst ea
      have e2 : a.num = c + 1 := congrArg Prod.snd ea
      have ki : k = i := by omega
      subst ki
      rw [hi] at hk
      cases hk
      have := ge y hy
      omega
end FR

/-! Worlds: what a deed has seen, how many. -/
namespace FR
open PySem PySem.Spec PyProof.Rows L2
/-- r is nowhere above s -/
def Le (r s : List Int) : Prop := ∀ (y : Nat) (a b : Int), r[y]? = some a → s[y]? = some b → a ≤ b
/-- the number of the deeds of each -/
def diag (known : List (List Int)) (i : Nat) : Int := (known.getD i []).getD i 0
theorem diag_of {known : List (List Int)} {i : Nat} {r : List Int} {c : Int} (h : known[i]? = some r) (hc : r[i]? = some c) : diag known i = c := by
  unfold diag
  simp [List.getD, h, hc]
/-- b is among those that a cut at r has -/
def inCut (r : List Int) (b : Act) : Bool := decide (b.num ≤ r.getD b.who.toNat 0)
theorem getD_of {r : List Int} {i : Nat} {c : Int} (h : r[i]? = some c) : r.getD i 0 = c := by simp [List.getD, h]
theorem sum_set : ∀ (r : List Int) (i : Nat) (x c : Int), r[i]? = some x → (r.set i c).sum = r.sum - x + c
  | [], _, _, _, h => by simp at h
  | y :: r, 0, x, c, h => by
    simp at h
    subst h
    rw [List.set_cons_zero, List.sum_cons, List.sum_cons]
    omega
  | y :: r, i + 1, x, c, h => by
    have q := sum_set r i x c (by simpa using h)
    rw [List.set_cons_succ, List.sum_cons, List.sum_cons, q]
    omega
theorem getD_set_ne {r : List Int} {i j : Nat} {c : Int} (h : i ≠ j) : (r.set i c).getD j 0 = r.getD j 0 := by
  unfold List.getD
  rw [List.getElem?_set_ne h]
theorem getD_set_self {r : List Int} {i : Nat} {c : Int} (h : i < r.length) : (r.set i c).getD i 0 = c := by
  unfold List.getD
  rw [List.getElem?_set_self h]
  rfl
structure WorldOk (many : Nat) (acts : List Act) (known : List (List Int)) : Prop where
  /-- nobody knows more of a member than itself -/
  top : ∀ (j : Nat) (r : List Int) (i : Nat) (x : Int), known[j]? = some r → r[i]? = some x → x ≤ diag known i
  pos : ∀ (i : Nat), 0 ≤ diag known i
  act : ∀ a ∈ acts, ∃ i : Nat, a.who = (i : Int) ∧ i < many ∧ 1 ≤ a.num ∧ a.num ≤ diag known i ∧ a.note[i]? = some (a.num - 1)
  le : ∀ a ∈ acts, ∀ (i : Nat) (x : Int), a.note[i]? = some x → x ≤ diag known i
  /-- rows are closed -/
  cl : ∀ (j : Nat) (r : List Int), known[j]? = some r → ∀ b ∈ acts, b.num ≤ r.getD b.who.toNat 0 → Le b.note r
  cla : ∀ a ∈ acts, ∀ b ∈ acts, b.num ≤ a.note.getD b.who.toNat 0 → Le b.note a.note
  cnt : ∀ r : List Int, r.length = many → (∀ (i : Nat) (x : Int), r[i]? = some x → 0 ≤ x ∧ x ≤ diag known i) → ((acts.countP (inCut r) : Nat) : Int) = r.sum
theorem sum_zero : ∀ n : Nat, (List.replicate n (0 : Int)).sum = 0
  | 0 => rfl
  | n + 1 => by rw [List.replicate_succ, List.sum_cons, sum_zero n]; rfl
theorem diag_zero {n i : Nat} : diag (List.replicate n (List.replicate n (0 : Int))) i = 0 := by
  unfold diag List.getD
  by_cases h : i < n
  · rw [List.getElem?_replicate, if_pos h]
    show ((List.replicate n (0 : Int))[i]?).getD 0 = 0
    rw [List.getElem?_replicate, if_pos h]
    rfl
  · rw [List.getElem?_replicate, if_neg h]
    rfl
theorem all_zero : ∀ (r : List Int), (∀ x ∈ r, x = 0) → r.sum = 0
  | [], _ => rfl
  | x :: r, h => by
    rw [List.sum_cons, all_zero r fun y m => h y (List.mem_cons_of_mem _ m), h x (List.mem_cons_self ..)]
    rfl
theorem Wd.world {many : Nat} {acts : List Act} {known : List (List Int)} (h : Wd many acts known) : WorldOk many acts known := by
  induction h with
  | nil =>
    refine ⟨fun j r i x hj hx => ?_, fun i => ?_, fun a m => by simp at m, fun a m => by simp at m, fun j r hj b m => by simp at m, fun a m => by simp at m, fun r hl hb => ?_⟩
    · rw [diag_zero]
      have q := List.mem_of_getElem? hj
      have q2 := List.mem_of_getElem? hx
      rw [(List.mem_replicate.mp q).2] at q2
      rw [(List.mem_replicate.mp q2).2]
      exact Int.le_refl 0
    · rw [diag_zero]
      exact Int.le_refl 0
    · rw [List.countP_nil]
      symm
      refine all_zero r fun x mx => ?_
      obtain ⟨i, hi⟩ := List.getElem?_of_mem mx
      have q := hb i x hi
      rw [diag_zero] at q
      omega
  | @step acts known i row row' c wt w hi hr hc ok ih =>
    have lens := w.lens
    have nn := w.nonneg
    have hil : i < known.length := (List.getElem?_eq_some_iff.mp hi).1
    have him : i < many := by rw [← lens.1]; exact hil
    have hrl : row'.length = many := by
      rcases hr with rfl | ⟨j, ro, hj, rfl⟩
      · exact lens.2 _ (List.mem_of_getElem? hi)
      · rw [List.length_zipWith, lens.2 _ (List.mem_of_getElem? hi), lens.2 _ (List.mem_of_getElem? hj), Nat.min_self]
    have hn0 : ∀ x ∈ row', 0 ≤ x := by
      rcases hr with rfl | ⟨j, ro, hj, rfl⟩
      · exact nn _ (List.mem_of_getElem? hi)
      · exact zipWith_nonneg (nn _ (List.mem_of_getElem? hi)) (nn _ (List.mem_of_getElem? hj))
    -- the row that it does its deed by is below the diagonal, at i just there, and closed
    have htop : ∀ (k : Nat) (x : Int), row'[k]? = some x → x ≤ diag known k := fun k x hx => by
      rcases hr with rfl | ⟨j, ro, hj, rfl⟩
      · exact ih.top i _ k x hi hx
      · obtain ⟨a, b, h1, h2, e⟩ := zip_get hx
        have q1 := ih.top i _ k a hi h1
        have q2 := ih.top j _ k b hj h2
        omega
    obtain ⟨c0, hc0⟩ := get_some (show i < row.length by rw [lens.2 _ (List.mem_of_getElem? hi)]; exact him)
    have ed : diag known i = c0 := diag_of hi hc0
    have ec : c = diag known i := by
      have q1 := htop i c hc
      have q2 : c0 ≤ c := by
        rcases hr with rfl | ⟨j, ro, hj, rfl⟩
        · rw [hc0] at hc
          cases hc
          exact Int.le_refl _
        · obtain ⟨a, b, h1, h2, e⟩ := zip_get hc
          rw [hc0] at h1
          cases h1
          omega
      omega
    have hcl : ∀ b ∈ acts, b.num ≤ row'.getD b.who.toNat 0 → Le b.note row' := fun b mb hb => by
      rcases hr with rfl | ⟨j, ro, hj, rfl⟩
      · exact ih.cl i _ hi b mb hb
      · obtain ⟨k, ek, hk, _, _, _⟩ := ih.act b mb
        have e2 : b.who.toNat = k := by omega
        rw [e2] at hb
        obtain ⟨x, hx⟩ := get_some (show k < (List.zipWith max row ro).length by rw [hrl]; exact hk)
        rw [getD_of hx] at hb
        obtain ⟨x1, x2, h1, h2, e⟩ := zip_get hx
        intro y z z' hz hz'
        obtain ⟨y1, y2, g1, g2, e3⟩ := zip_get hz'
        rcases Int.le_total x2 x1 with le | le
        · have q := ih.cl i _ hi b mb (by rw [e2, getD_of h1]; omega) y z y1 hz g1
          omega
        · have q := ih.cl j _ hj b mb (by rw [e2, getD_of h2]; omega) y z y2 hz g2
          omega
    have dself : diag (known.set i (row'.set i (c + 1))) i = c + 1 := diag_of (List.getElem?_set_self hil) (List.getElem?_set_self (by rw [hrl]; exact him))
    have dne : ∀ k, k ≠ i → diag (known.set i (row'.set i (c + 1))) k = diag known k := fun k h => by
      unfold diag List.getD
      rw [List.getElem?_set_ne (fun z => h z.symm)]
    have dge : ∀ k, diag known k ≤ diag (known.set i (row'.set i (c + 1))) k := fun k => by
      by_cases h : k = i
      · rw [h, dself]
        omega
      · rw [dne k h]
        exact Int.le_refl _
    have c0' : 0 ≤ c := by rw [ec]; exact ih.pos i
    -- a deed of before is in no cut that the new one's number needs
    have hnum : ∀ b ∈ acts, b.who = (i : Int) → b.num ≤ c := fun b mb e => by
      obtain ⟨k, ek, hk, _, h2, _⟩ := ih.act b mb
      have : k = i := by omega
      subst this
      omega
    have newLe : ∀ r : List Int, (∀ (k : Nat) (x : Int), r[k]? = some x → x ≤ diag known k) → ¬ (c + 1 ≤ r.getD i 0) := fun r hr2 le => by
      cases e : r[i]? with
      | none => simp [List.getD, e] at le; omega
      | some x =>
        rw [getD_of e] at le
        have := hr2 i x e
        omega
    refine ⟨fun j r k x hj hx => ?_, fun k => Int.le_trans (ih.pos k) (dge k), fun a ma => ?_, fun a ma k x hx => ?_, fun j r hj b mb hb => ?_, fun a ma b mb hb => ?_, fun r hl hb => ?_⟩
    · by_cases ji : j = i
      · subst ji
        rw [List.getElem?_set_self hil] at hj
        cases hj
        by_cases ki : k = j
        · subst ki
          rw [List.getElem?_set_self (by rw [hrl]; exact him)] at hx
          cases hx
          rw [dself]
          exact Int.le_refl _
        · rw [List.getElem?_set_ne (fun z => ki z.symm)] at hx
          exact Int.le_trans (htop k x hx) (dge k)
      · rw [List.getElem?_set_ne (fun z => ji z.symm)] at hj
        exact Int.le_trans (ih.top j r k x hj hx) (dge k)
    · rcases List.mem_append.mp ma with ma | ma
      · obtain ⟨k, ek, hk, h1, h2, h3⟩ := ih.act a ma
        exact ⟨k, ek, hk, h1, Int.le_trans h2 (dge k), h3⟩
      · rw [List.mem_singleton.mp ma]
        exact ⟨i, rfl, him, by show 1 ≤ c + 1; omega, by rw [dself]; exact Int.le_refl _, by show row'[i]? = some (c + 1 - 1); rw [hc]; congr 1; omega⟩
    · rcases List.mem_append.mp ma with ma | ma
      · exact Int.le_trans (ih.le a ma k x hx) (dge k)
      · rw [List.mem_singleton.mp ma] at hx
        exact Int.le_trans (htop k x hx) (dge k)
    · rcases List.mem_append.mp mb with m2 | mb
      · by_cases ji : j = i
        · subst ji
          rw [List.getElem?_set_self hil] at hj
          cases hj
          obtain ⟨k, ek, hk, h1, h2, h3⟩ := ih.act b m2
          have e2 : b.who.toNat = k := by omega
          have hb' : b.num ≤ row'.getD b.who.toNat 0 := by
            rw [e2] at hb ⊢
            by_cases kj : k = j
            · subst kj
              rw [getD_of hc]
              exact hnum b m2 ek
            · rw [getD_set_ne (fun z => kj z.symm)] at hb
              exact hb
          have q := hcl b m2 hb'
          intro y z z' hz hz'
          by_cases yj : y = j
          · subst yj
            rw [List.getElem?_set_self (by rw [hrl]; exact him)] at hz'
            cases hz'
            have := q y z c hz hc
            omega
          · rw [List.getElem?_set_ne (fun z => yj z.symm)] at hz'
            exact q y z z' hz hz'
        · rw [List.getElem?_set_ne (fun z => ji z.symm)] at hj
          exact ih.cl j r hj b m2 hb
      · rw [List.mem_singleton.mp mb] at hb ⊢
        by_cases ji : j = i
        · subst ji
          rw [List.getElem?_set_self hil] at hj
          cases hj
          intro y z z' hz hz'
          by_cases yj : y = j
          · subst yj
            rw [List.getElem?_set_self (by rw [hrl]; exact him)] at hz'
            cases hz'
            have hz2 : row'[y]? = some z := hz
            rw [hc] at hz2
            cases hz2
            omega
          · rw [List.getElem?_set_ne (fun z => yj z.symm)] at hz'
            have hz2 : row'[y]? = some z := hz
            rw [hz2] at hz'
            cases hz'
            exact Int.le_refl _
        · rw [List.getElem?_set_ne (fun z => ji z.symm)] at hj
          exact absurd (show c + 1 ≤ r.getD i 0 from hb) (newLe r fun k x hx => ih.top j r k x hj hx)
    · rcases List.mem_append.mp ma with ma | ma
      · rcases List.mem_append.mp mb with mb | mb
        · exact ih.cla a ma b mb hb
        · rw [List.mem_singleton.mp mb] at hb
          exact absurd (show c + 1 ≤ a.note.getD i 0 from hb) (newLe a.note fun k x hx => ih.le a ma k x hx)
      · rw [List.mem_singleton.mp ma] at hb ⊢
        rcases List.mem_append.mp mb with mb | mb
        · exact hcl b mb hb
        · rw [List.mem_singleton.mp mb] at hb
          exact absurd (show c + 1 ≤ row'.getD i 0 from hb) (newLe row' htop)
    · rw [List.countP_append]
      obtain ⟨x, hx⟩ := get_some (show i < r.length by rw [hl]; exact him)
      have bx := hb i x hx
      rw [dself] at bx
      have one : ([(⟨i, c + 1, row', wt⟩ : Act)].countP (inCut r) : Nat) = if c + 1 ≤ x then 1 else 0 := by
        rw [List.countP_cons, List.countP_nil]
        have e : inCut r (⟨i, c + 1, row', wt⟩ : Act) = decide (c + 1 ≤ x) := by
          unfold inCut
          show decide (c + 1 ≤ r.getD ((i : Int).toNat) 0) = _
          rw [Int.toNat_natCast, getD_of hx]
        rw [e]
        by_cases h : c + 1 ≤ x
        · simp [h]
        · simp [h]
      rw [one]
      by_cases h : c + 1 ≤ x
      · rw [if_pos h]
        have q := ih.cnt (r.set i c) (by rw [List.length_set]; exact hl) fun k y hy => by
          by_cases ki : k = i
          · subst ki
            rw [List.getElem?_set_self (by rw [hl]; exact him)] at hy
            cases hy
            omega
          · rw [List.getElem?_set_ne (fun z => ki z.symm)] at hy
            have q := hb k y hy
            rw [dne k ki] at q
            exact q
        have e : acts.countP (inCut r) = acts.countP (inCut (r.set i c)) := by
          refine List.countP_congr fun b mb => ?_
          obtain ⟨k, ek, hk, h1, h2, h3⟩ := ih.act b mb
          have e2 : b.who.toNat = k := by omega
          unfold inCut
          rw [e2]
          by_cases ki : k = i
          · subst ki
            rw [getD_set_self (by rw [hl]; exact him), getD_of hx]
            have := hnum b mb ek
            simp only [decide_eq_true_eq]
            omega
          · rw [getD_set_ne (fun z => ki z.symm)]
        rw [e]
        rw [sum_set r i x c hx] at q
        push_cast
        omega
      · rw [if_neg h]
        have q := ih.cnt r hl fun k y hy => by
          by_cases ki : k = i
          · subst ki
            rw [hx] at hy
            cases hy
            omega
          · have q := hb k y hy
            rw [dne k ki] at q
            exact q
        push_cast
        omega
end FR

/-! Seeing, among the deeds of a world that lie in lists. -/
namespace FR
open PySem PySem.Spec PyProof.Rows L2 SrtO
theorem le_sum : ∀ {r s : List Int}, r.length = s.length → Le r s → r.sum ≤ s.sum
  | [], [], _, _ => Int.le_refl _
  | [], _ :: _, h, _ => nomatch h
  | _ :: _, [], h, _ => nomatch h
  | x :: r, y :: s, h, le => by
    have q := le_sum (r := r) (s := s) (Nat.succ.inj h) fun i a b h1 h2 => le (i + 1) a b (by simpa using h1) (by simpa using h2)
    have q2 := le 0 x y rfl rfl
    rw [List.sum_cons, List.sum_cons]
    omega
theorem lt_sum : ∀ {r s : List Int} (k : Nat) (x y : Int), r.length = s.length → Le r s → r[k]? = some x → s[k]? = some y → x < y → r.sum < s.sum
  | [], _, k, x, y, _, _, h, _, _ => by simp at h
  | _ :: _, [], _, _, _, h, _, _, _, _ => nomatch h
  | a :: r, b :: s, 0, x, y, h, le, h1, h2, lt => by
    simp at h1 h2
    subst h1 h2
    have q := le_sum (r := r) (s := s) (Nat.succ.inj h) fun i a b h1 h2 => le (i + 1) a b (by simpa using h1) (by simpa using h2)
    rw [List.sum_cons, List.sum_cons]
    omega
  | a :: r, b :: s, k + 1, x, y, h, le, h1, h2, lt => by
    have q := lt_sum (r := r) (s := s) k x y (Nat.succ.inj h) (fun i a b h1 h2 => le (i + 1) a b (by simpa using h1) (by simpa using h2)) (by simpa using h1) (by simpa using h2) lt
    have q2 := le 0 a b rfl rfl
    rw [List.sum_cons, List.sum_cons]
    omega
/-- one has seen the other one -/
def Act.sees (a b : Act) : Bool := a.seen b.who b.num
/-- deeds of a world: what is used of them -/
structure Wide (many : Nat) (as : List Act) : Prop where
  len : ∀ a ∈ as, a.note.length = many
  pos : ∀ a ∈ as, ∀ x ∈ a.note, 0 ≤ x
  act : ∀ a ∈ as, ∃ i : Nat, a.who = (i : Int) ∧ i < many ∧ 1 ≤ a.num ∧ a.note[i]? = some (a.num - 1)
  cl : ∀ a ∈ as, ∀ b ∈ as, b.num ≤ a.note.getD b.who.toNat 0 → Le b.note a.note
theorem Wide.perm {many : Nat} {as bs : List Act} (h : Wide many as) (k : ∀ b ∈ bs, b ∈ as) : Wide many bs :=
  ⟨fun a m => h.len a (k a m), fun a m => h.pos a (k a m), fun a m => h.act a (k a m), fun a m b mb => h.cl a (k a m) b (k b mb)⟩
theorem Wd.wide {many : Nat} {acts : List Act} {known : List (List Int)} (h : Wd many acts known) : Wide many acts :=
  ⟨fun a m => (h.plain a m).1, fun a m => (h.plain a m).2.1, fun a m => by
    obtain ⟨i, e, hi, h1, _, h3⟩ := h.world.act a m
    exact ⟨i, e, hi, h1, h3⟩, h.world.cla⟩
section
variable {many : Nat} {as : List Act} {a b c : Act}
theorem Wide.sees_iff (W : Wide many as) (ha : a ∈ as) (hb : b ∈ as) : a.sees b = inCut a.note b := by
  obtain ⟨i, e, hi, h1, _⟩ := W.act b hb
  unfold Act.sees Act.seen inCut
  rw [W.len a ha, decide_eq_true (show (0 : Int) ≤ b.who by omega), decide_eq_true (show b.who < (many : Int) by omega), decide_eq_true h1]
  rfl
theorem Wide.sees_le (W : Wide many as) (ha : a ∈ as) (hb : b ∈ as) (h : a.sees b = true) : Le b.note a.note := by
  rw [W.sees_iff ha hb] at h
  exact W.cl a ha b hb (of_decide_eq_true h)
theorem Wide.sees_size (W : Wide many as) (ha : a ∈ as) (hb : b ∈ as) (h : a.sees b = true) : b.note.sum < a.note.sum := by
  have le := W.sees_le ha hb h
  rw [W.sees_iff ha hb] at h
  have h := of_decide_eq_true h
  obtain ⟨i, e, hi, h1, h2⟩ := W.act b hb
  have e2 : b.who.toNat = i := by omega
  rw [e2] at h
  obtain ⟨y, hy⟩ := get_some (show i < a.note.length by rw [W.len a ha]; exact hi)
  rw [getD_of hy] at h
  exact lt_sum i _ y (by rw [W.len a ha, W.len b hb]) le h2 hy (by omega)
theorem Wide.sees_trans (W : Wide many as) (ha : a ∈ as) (hb : b ∈ as) (hc : c ∈ as) (h : a.sees b = true) (k : b.sees c = true) : a.sees c = true := by
  have le := W.sees_le ha hb h
  rw [W.sees_iff ha hc]
  rw [W.sees_iff hb hc] at k
  have k := of_decide_eq_true k
  obtain ⟨i, e, hi, h1, h2⟩ := W.act c hc
  have e2 : c.who.toNat = i := by omega
  unfold inCut
  rw [e2] at k ⊢
  obtain ⟨y, hy⟩ := get_some (show i < b.note.length by rw [W.len b hb]; exact hi)
  obtain ⟨z, hz⟩ := get_some (show i < a.note.length by rw [W.len a ha]; exact hi)
  rw [getD_of hy] at k
  rw [getD_of hz]
  have := le i y z hy hz
  exact decide_eq_true (by omega)
/-- of one author the one that isn't greater is the same or seen -/
theorem Wide.own_sees (W : Wide many as) (ha : a ∈ as) (hb : b ∈ as) (e : b.who = a.who) (ne : b.mark ≠ a.mark) (lt : HT.lexLt b.place a.place = true) : a.sees b = true := by
  obtain ⟨i, ea, hi, h1, h2⟩ := W.act a ha
  obtain ⟨j, eb, hj, k1, k2⟩ := W.act b hb
  have eij : j = i := by omega
  subst eij
  have e2 : b.who.toNat = j := by omega
  rw [W.sees_iff ha hb]
  unfold inCut
  rw [e2, getD_of h2]
  refine decide_eq_true ?_
  refine Int.not_lt.mp fun gt => ?_
  have nn : b.num ≠ a.num := fun z => ne (Prod.ext e z)
  have s : b.sees a = true := by
    rw [W.sees_iff hb ha]
    unfold inCut
    have e3 : a.who.toNat = j := by omega
    rw [e3, getD_of k2]
    exact decide_eq_true (by omega)
  have q := W.sees_size hb ha s
  unfold Act.place at lt
  rw [HT.lexLt_cons, if_neg (by omega), decide_eq_true_eq] at lt
  omega
end
end FR

/-! Lists of deeds of unlike marks, in order. -/
namespace FR
open PySem PySem.Spec PyProof.Rows L2 SrtO
/-- a list of deeds of unlike marks -/
def Dk (n : Nat) (H : Hp) (x : Addr) : Prop := ∃ (ps : List Addr) (A : Addr → Act), H x = some (.lst (ps.map V.ref)) ∧ Acts A H ps ∧ (ps.map fun p => (A p).mark).Nodup ∧ ps.length ≤ n
theorem Dk.keep {n : Nat} {S : List Addr} {H H' : Hp} {x : Addr} (h : Dk n H x) (k : Kp S H H') (m : x ∉ S) : Dk n H' x := by
  obtain ⟨ps, A, h1, h2, h3⟩ := h
  exact ⟨ps, A, k.lst h1 m, h2.keep k, h3⟩
section
variable {A : Addr → Act} {ps qs : List Addr}
theorem marks_inj (nd : (ps.map fun p => (A p).mark).Nodup) : ∀ p ∈ ps, ∀ q ∈ ps, (A p).mark = (A q).mark → p = q := by
  induction ps with
  | nil => intro p m; simp at m
  | cons x xs ih =>
    rw [List.map_cons, List.nodup_cons] at nd
    intro p mp q mq e
    rcases List.mem_cons.mp mp with e1 | m1
    · rcases List.mem_cons.mp mq with e2 | m2
      · rw [e1, e2]
      · exact absurd (List.mem_map.mpr ⟨q, m2, by rw [← e, e1]⟩) nd.1
    · rcases List.mem_cons.mp mq with e2 | m2
      · exact absurd (List.mem_map.mpr ⟨p, m1, by rw [e, e2]⟩) nd.1
      · exact ih nd.2 p m1 q m2 e
theorem place_mark {a b : Act} (h : a.place = b.place) : a.mark = b.mark := by
  unfold Act.place at h
  injection h with h1 h
  injection h with h2 h
  injection h with h3 h
  unfold Act.mark
  rw [h2, h3]
/-- the same deeds in order twice -/
theorem placed_uniq (nd : (ps.map fun p => (A p).mark).Nodup) (h : qs.Perm ps) (hp : Placed A ps) (hq : Placed A qs) : qs = ps :=
  (srt_uniq (k := fun p => (A p).place) h.symm hp hq fun x mx y my e => marks_inj nd x mx y my (place_mark e)).symm
theorem placed_lt (nd : (ps.map fun p => (A p).mark).Nodup) (hp : Placed A ps) {i j : Nat} {p q : Addr} (hi : ps[i]? = some p) (hj : ps[j]? = some q) (h : i < j) : HT.lexLt (A p).place (A q).place = true := by
  cases e : HT.lexLt (A p).place (A q).place with
  | true => rfl
  | false =>
    exfalso
    obtain ⟨li, ei⟩ := List.getElem?_eq_some_iff.mp hi
    obtain ⟨lj, ej⟩ := List.getElem?_eq_some_iff.mp hj
    have q1 := (List.pairwise_iff_getElem.mp hp) i j li lj h
    rw [ei, ej] at q1
    have q2 := place_mark (lex_tot _ _ e q1)
    have q3 := (List.pairwise_iff_getElem.mp nd) i j (by simpa using li) (by simpa using lj) h
    simp only [List.getElem_map] at q3
    rw [ei, ej] at q3
    exact q3 q2
def markK (A : Addr → Act) (x : V) : List Int := [(A (refA x)).who, (A (refA x)).num]
theorem markK_inj (nd : (ps.map fun p => (A p).mark).Nodup) : ∀ x ∈ ps.map V.ref, ∀ y ∈ ps.map V.ref, markK A x = markK A y → x = y := by
  intro x mx y my e
  obtain ⟨p, mp, rfl⟩ := List.mem_map.mp mx
  obtain ⟨q, mq, rfl⟩ := List.mem_map.mp my
  unfold markK at e
  injection e with e1 e
  injection e with e2 e
  rw [marks_inj nd p mp q mq (by unfold Act.mark; exact Prod.ext e1 e2)]
theorem markK_at {H : Hp} (ha : Acts A H ps) : ∀ x ∈ ps.map V.ref, ∃ t rs, x = V.ref t ∧ H t = some (.tup ((markK A x).map V.int ++ rs)) := by
  intro x mx
  obtain ⟨p, mp, rfl⟩ := List.mem_map.mp mx
  obtain ⟨⟨n, q, h1, h2, h3⟩, _⟩ := ha p mp
  exact ⟨p, [.ref n, .ref q], rfl, h1⟩
end
end FR

/-! Cuts through a world. -/
namespace FR
open PySem PySem.Spec PyProof.Rows L2 SrtO
structure Cut (many : Nat) (as : List Act) (D : Nat → Int) (top : List Int) : Prop where
  len : top.length = many
  pos : ∀ x ∈ top, 0 ≤ x
  le : ∀ (i : Nat) (x : Int), top[i]? = some x → x ≤ D i
  cl : ∀ b ∈ as, inCut top b = true → Le b.note top
theorem Cut.zero {many : Nat} {as : List Act} {D : Nat → Int} (W : Wide many as) (h0 : ∀ i, 0 ≤ D i) : Cut many as D (List.replicate many 0) := by
  refine ⟨List.length_replicate, fun x m => ?_, fun i x h => ?_, fun b mb h => ?_⟩
  · rw [(List.mem_replicate.mp m).2]
    exact Int.le_refl 0
  · rw [(List.mem_replicate.mp (List.mem_of_getElem? h)).2]
    exact h0 i
  · obtain ⟨k, e, hk, h1, _⟩ := W.act b mb
    unfold inCut at h
    have e2 : b.who.toNat = k := by omega
    have g : (List.replicate many (0 : Int))[k]? = some 0 := by rw [List.getElem?_replicate, if_pos hk]
    rw [e2, getD_of g] at h
    have := of_decide_eq_true h
    omega
theorem Cut.step {many : Nat} {as : List Act} {D : Nat → Int} {top : List Int} (W : Wide many as) (inj : ∀ a ∈ as, ∀ b ∈ as, a.mark = b.mark → a = b) (hD : ∀ a ∈ as, ∀ (i : Nat) (x : Int), a.note[i]? = some x → x ≤ D i) (hN : ∀ a ∈ as, a.num ≤ D a.who.toNat)
    (C : Cut many as D top) {a : Act} (ha : a ∈ as) {i : Nat} (ei : a.who = (i : Int)) {z : Int} (hz : (List.zipWith max top a.note)[i]? = some z) : Cut many as D ((List.zipWith max top a.note).set i (max z a.num)) := by
  have hl : (List.zipWith max top a.note).length = many := by rw [List.length_zipWith, C.len, W.len a ha, Nat.min_self]
  have hi : i < many := by rw [← hl]; exact (List.getElem?_eq_some_iff.mp hz).1
  have self : ((List.zipWith max top a.note).set i (max z a.num))[i]? = some (max z a.num) := List.getElem?_set_self (by rw [hl]; exact hi)
  have other : ∀ k, k ≠ i → ((List.zipWith max top a.note).set i (max z a.num))[k]? = (List.zipWith max top a.note)[k]? := fun k h => List.getElem?_set_ne (fun q => h q.symm)
  have up : ∀ (k : Nat) (x y : Int), (List.zipWith max top a.note)[k]? = some x → ((List.zipWith max top a.note).set i (max z a.num))[k]? = some y → x ≤ y := fun k x y h1 h2 => by
    by_cases e : k = i
    · subst e
      rw [self] at h2
      cases h2
      rw [hz] at h1
      cases h1
      omega
    · rw [other k e, h1] at h2
      cases h2
      exact Int.le_refl _
  have upT : Le top ((List.zipWith max top a.note).set i (max z a.num)) := fun k x y h1 h2 => by
    have hk : k < many := by rw [← C.len]; exact (List.getElem?_eq_some_iff.mp h1).1
    obtain ⟨v, hv⟩ := get_some (show k < (List.zipWith max top a.note).length by rw [hl]; exact hk)
    have q := up k v y hv h2
    obtain ⟨p, r, g1, g2, e⟩ := zip_get hv
    rw [h1] at g1
    cases g1
    omega
  have upN : Le a.note ((List.zipWith max top a.note).set i (max z a.num)) := fun k x y h1 h2 => by
    have hk : k < many := by rw [← W.len a ha]; exact (List.getElem?_eq_some_iff.mp h1).1
    obtain ⟨v, hv⟩ := get_some (show k < (List.zipWith max top a.note).length by rw [hl]; exact hk)
    have q := up k v y hv h2
    obtain ⟨p, r, g1, g2, e⟩ := zip_get hv
    rw [h1] at g2
    cases g2
    omega
  have trans : ∀ {r s : List Int}, r.length = many → s.length = many → Le r s → Le s ((List.zipWith max top a.note).set i (max z a.num)) → Le r ((List.zipWith max top a.note).set i (max z a.num)) := fun hr hs l1 l2 k x y h1 h2 => by
    have hk := (List.getElem?_eq_some_iff.mp h1).1
    obtain ⟨v, hv⟩ := get_some (show k < _ by rw [hs, ← hr]; exact hk)
    have q1 := l1 k x v h1 hv
    have q2 := l2 k v y hv h2
    omega
  refine ⟨by rw [List.length_set]; exact hl, fun x m => ?_, fun k x h => ?_, fun b mb h => ?_⟩
  · rcases List.mem_or_eq_of_mem_set m with m | rfl
    · exact zipWith_nonneg C.pos (W.pos a ha) x m
    · have := zipWith_nonneg C.pos (W.pos a ha) z (List.mem_of_getElem? hz)
      omega
  · by_cases e : k = i
    · subst e
      rw [self] at h
      cases h
      obtain ⟨p, r, g1, g2, e⟩ := zip_get hz
      have q1 := C.le k p g1
      have q2 := hD a ha k r g2
      have q3 := hN a ha
      have e3 : a.who.toNat = k := by omega
      rw [e3] at q3
      omega
    · rw [other k e] at h
      obtain ⟨p, r, g1, g2, e⟩ := zip_get h
      have q1 := C.le k p g1
      have q2 := hD a ha k r g2
      omega
  · obtain ⟨k, ek, hk, h1, h2⟩ := W.act b mb
    have e2 : b.who.toNat = k := by omega
    unfold inCut at h
    rw [e2] at h
    obtain ⟨v, hv⟩ := get_some (show k < (List.zipWith max top a.note).length by rw [hl]; exact hk)
    obtain ⟨p, r, g1, g2, e⟩ := zip_get hv
    have viaT : b.num ≤ p → Le b.note ((List.zipWith max top a.note).set i (max z a.num)) := fun le =>
      trans (W.len b mb) C.len (C.cl b mb (by unfold inCut; rw [e2, getD_of g1]; exact decide_eq_true le)) upT
    have viaN : b.num ≤ r → Le b.note ((List.zipWith max top a.note).set i (max z a.num)) := fun le =>
      trans (W.len b mb) (W.len a ha) (W.cl a ha b mb (by rw [e2, getD_of g2]; exact le)) upN
    by_cases ki : k = i
    · subst ki
      rw [getD_of self] at h
      have h := of_decide_eq_true h
      rw [hz] at hv
      cases hv
      by_cases c1 : b.num ≤ p
      · exact viaT c1
      · by_cases c2 : b.num ≤ r
        · exact viaN c2
        · have c3 : b.num ≤ a.num := by omega
          obtain ⟨k', ek', _, _, hn⟩ := W.act a ha
          have : k' = k := by omega
          subst this
          rw [g2] at hn
          cases hn
          have en : b.num = a.num := by omega
          have eb := inj b mb a ha (Prod.ext (by show b.who = a.who; omega) en)
          rw [eb]
          exact upN
    · rw [show ((List.zipWith max top a.note).set i (max z a.num)).getD k 0 = v from getD_of ((other k ki).trans hv)] at h
      have h := of_decide_eq_true h
      rcases Int.le_total r p with le | le
      · exact viaT (by omega)
      · exact viaN (by omega)
section
variable {many : Nat} {as : List Act} {D : Nat → Int} {top : List Int} {b : Act}
theorem Cut.less (W : Wide many as) (C : Cut many as D top) (hb : b ∈ as) (h : inCut top b = true) : b.note.sum < top.sum := by
  have le := C.cl b hb h
  obtain ⟨k, ek, hk, h1, h2⟩ := W.act b hb
  have e2 : b.who.toNat = k := by omega
  unfold inCut at h
  rw [e2] at h
  obtain ⟨v, hv⟩ := get_some (show k < top.length by rw [C.len]; exact hk)
  rw [getD_of hv] at h
  have h := of_decide_eq_true h
  exact lt_sum k _ v (by rw [W.len b hb, C.len]) le h2 hv (by omega)
/-- what one in the cut has seen is in it -/
theorem Cut.seen (W : Wide many as) (C : Cut many as D top) {c : Act} (hb : b ∈ as) (hc : c ∈ as) (h : inCut top b = true) (s : b.sees c = true) : inCut top c = true := by
  rw [W.sees_iff hb hc] at s
  have le := C.cl b hb h
  obtain ⟨k, ek, hk, h1, h2⟩ := W.act c hc
  have e2 : c.who.toNat = k := by omega
  unfold inCut at s ⊢
  rw [e2] at s ⊢
  obtain ⟨v, hv⟩ := get_some (show k < top.length by rw [C.len]; exact hk)
  obtain ⟨u, hu⟩ := get_some (show k < b.note.length by rw [W.len b hb]; exact hk)
  rw [getD_of hu] at s
  rw [getD_of hv]
  have s := of_decide_eq_true s
  have := le k u v hu hv
  exact decide_eq_true (by omega)
/-- a deed that has seen all of the cut -/
def moreOf (top : List Int) (i : Nat) : Act := ⟨(i : Int), top.getD i 0 + 1, top, .use "a" "b"⟩
theorem Cut.more_sees (W : Wide many as) (C : Cut many as D top) (i : Nat) (hb : b ∈ as) : (moreOf top i).sees b = inCut top b := by
  obtain ⟨k, ek, hk, h1, _⟩ := W.act b hb
  unfold Act.sees Act.seen inCut moreOf
  simp only
  rw [C.len, decide_eq_true (show (0 : Int) ≤ b.who by omega), decide_eq_true (show b.who < (many : Int) by omega), decide_eq_true h1]
  rfl
end
/-- the greatest one stands last -/
theorem placed_last {A : Addr → Act} {qs : List Addr} {m : Addr} (hp : Placed A qs) (mm : m ∈ qs) (lt : ∀ q ∈ qs, q ≠ m → HT.lexLt (A q).place (A m).place = true) : qs[qs.length - 1]? = some m := by
  have hpos : 0 < qs.length := List.length_pos_of_mem mm
  have hl : qs.length - 1 < qs.length := by omega
  rw [List.getElem?_eq_getElem hl]
  congr 1
  by_cases e : qs[qs.length - 1] = m
  · exact e
  · exfalso
    obtain ⟨j, hj⟩ := List.getElem?_of_mem mm
    obtain ⟨lj, ej⟩ := List.getElem?_eq_some_iff.mp hj
    have jl : j < qs.length - 1 := by
      rcases Nat.lt_or_ge j (qs.length - 1) with h | h
      · exact h
      · have : j = qs.length - 1 := by omega
        subst this
        exact absurd ej e
    have q := (List.pairwise_iff_getElem.mp hp) j (qs.length - 1) lj hl jl
    rw [ej] at q
    have z : HT.lexLt (A qs[qs.length - 1]).place (A m).place = false := q
    rw [lt _ (List.getElem_mem hl) e] at z
    cases z
end FR

/-! A def of a class that says super(): it has captured the class's cell. -/
namespace FR
open PySem PySem.Spec PyProof.Rows L2 NdefX
section
variable {CX : CXT} {P : Program} {w : World} {K : PySem.W.Frag} {mg : Str → Option Value} {base : Heap} {k : Nat} {f cda cc D : Addr} {name qual : Str} {params : Arguments} {body : List Stmt} {scope : Scope} {kV doc pm ct oc : Value} {an od cld : Option Addr} {osl csl : Array (Option Value)} {cl : Value} {N ps : List Str} {sp : Sp}
def cloF (name qual : Str) (params : Arguments) (body : List Stmt) (scope : Scope) (cc cda : Addr) : NF := ⟨name, qual, params, body, scope, [("__class__", cc)], cda⟩
theorem clo_cells {s : Shared} {H : Hp} (KX : K.In s.heap) (hb : ∀ b o, K.lookup b = some o → H b = none) (hc : K.lookup cc = some ⟨cl, cld, .cell (some (.ref D)), csl⟩) : CellsAt [("__class__", cc)] ["__class__"] [some (.ref D)] s.heap H := by
  have hcell : s.heap.IsCell cc (some (.ref D)) := ⟨_, KX _ _ hc, rfl⟩
  have one : ∀ {y : Str} {c : Addr}, ([(("__class__" : Str), cc)] : List (Str × Addr)).lookup y = some c → y = "__class__" ∧ c = cc := fun {y c} h => by
    rw [List.lookup_cons] at h
    by_cases e : y = "__class__"
    · subst e
      rw [beq_self_eq_true] at h
      exact ⟨rfl, (Option.some.inj h).symm⟩
    · rw [show (y == ("__class__" : Str)) = false from beq_eq_false_iff_ne.mpr e] at h
      cases h
  refine ⟨rfl, fun y c h => ?_, fun x y c h1 h2 => ?_, fun i y h => ?_⟩
  · obtain ⟨_, rfl⟩ := one h
    exact ⟨hb _ _ hc, _, hcell⟩
  · rw [(one h1).1, (one h2).1]
  · cases i with
    | zero =>
      simp at h
      subst h
      refine ⟨cc, rfl, fun v hv => ?_⟩
      simp at hv
      subst hv
      exact ⟨_, rfl, hcell⟩
    | succ i => simp at h
theorem fn_clo (lk : K.lookup f = some ⟨oc, od, .func (PySem.W.fnX name qual params body scope [("__class__", cc)] .none kV doc pm an (.ref cda) ct), osl⟩) (hcd : PySem.W.codeIn K (.ref cda) qual = true) (hc : K.lookup cc = some ⟨cl, cld, .cell (some (.ref D)), csl⟩)
    (S : NScope N ps ["__class__"] scope) (len : ∀ vs H Q E, sp vs H Q E → vs.length = ps.length)
    (hbody : ∀ (A : Around) (outer : List Env) (s : Shared) (H : Hp) (vs : List V) (Q : VK) (E : XK), Room k (A.deeper (envF (cloF name qual params body scope cc cda) f s.heap.objs.size)) → sp vs H Q E →
      ∃ t, PSs (ncx CX P w K mg base N (cloF name qual params body scope cc cda) f A outer s H E) body t ∧ t { nx := fun _ H' => Q .non H', rt := Q } (startF N vs [some (.ref D)]) H) :
    FnOk P w K mg base CX (k + 1) f (PySem.W.fnX name qual params body scope [("__class__", cc)] .none kV doc pm an (.ref cda) ct) ps sp := by
  refine ⟨len, fun A outer s H args us vs Q E hr e0 hb r hsp => ?_⟩
  have hl := len _ _ _ _ hsp
  have KX : K.In s.heap := e0.mod.kin.keeps fun b o e => (e0.bs b o e).1
  have kH : ∀ b o, K.lookup b = some o → H b = none := fun b o e => (e0.bs b o (e0.mod.kin _ _ e)).2
  have lim : s.heap.NoLimit := e0.mod.nolimit.keeps fun b o e => (e0.bs b o e).1
  refine codeAny_call_function hr.depth (KX _ _ lk) rfl S.co S.gen rfl (PySem.W.codeRec_of KX hcd) (hb _ _ _ _ ?_)
  refine wpAny_newFunctionEnv S.nocell (fun ⟨n, _⟩ hy => S.par n (List.of_mem_zip hy).1) (fun h₁ hns hsb => ⟨lim.fresh _ hsb, ?_⟩) S.kind
  show codeAny _ _ (.func body (envF (cloF name qual params body scope cc cda) f s.heap.objs.size)) _ _
  refine codeAny_func ?_
  have kp : ∀ b o, s.heap.get? b = some o → h₁.get? b = some o := fun b o e => hsb.extBut b o (Nat.ne_of_lt (Heap.lt_size e)) (Heap.get?_push_of_some _ e)
  obtain ⟨t, ht, hq⟩ := hbody A outer s H vs Q E (hr.deeper _) hsp
  have I : Inv (ncx CX P w K mg base N (cloF name qual params body scope cc cda) f A outer s H E) [] (startF N vs [some (.ref D)]) H { s with heap := h₁, toks := s.toks + (ps.zip us).length } :=
    inv_startN S hr.hd e0 hl r (clo_cells KX kH hc) hns kp
  refine wpAny_mono (ht.run [] _ (startF N vs [some (.ref D)]) H _ I hq) (fun fl s' hs => ?_) fun e s' hs => hs
  have fin : ∀ {σ' : L2.St} {H' : Hp} {v : V} {u : Value}, Inv (ncx CX P w K mg base N (cloF name qual params body scope cc cda) f A outer s H E) [] σ' H' s' → L2.RelV v u → Q v H' → CE outer P w H s Q u s' := fun J rv q => ⟨_, _, J.os, J.bare, J.base, J.hok, rv, q⟩
  cases fl with
  | ret u =>
    obtain ⟨v, σ', H', J, rv, q⟩ := hs
    exact fin J rv q
  | next =>
    obtain ⟨σ', H', J, q⟩ := hs
    exact fin (v := V.non) (u := Value.none) J rfl q
  | brk =>
    obtain ⟨_, _, _, q⟩ := hs
    exact False.elim q
  | cont =>
    obtain ⟨_, _, _, q⟩ := hs
    exact False.elim q
end
end FR

/-! super().__init__(..) of an own error over ValueError. -/
namespace FR
open PySem PySem.Spec PyProof.Rows L2 NdefX
/-- what the written part says of the class at C, its def __init__ at f -/
structure SupC (prog : Program) (K : PySem.W.Frag) (mg : Str → Option Value) (C f cda : Addr) (me : Str) : Prop where
  ow : OexC K C
  al : PySem.W.ks_superIn K C C "__init__" = some (some (.builtin "ValueError.__init__"))
  sub : PySem.W.mroIn K C (.ref C) = some true
  ve : PySem.W.subIn K (.ref C) (.type "ValueError") = some true
  op : PySem.W.nsIn K cStatics "thirdparty.any" = some none
  un : mg "super" = none
  fn : ∃ (oc : Value) (od : Option Addr) (fd : FuncData) (osl : Array (Option Value)) (ar : Arg), K.lookup f = some ⟨oc, od, .func fd, osl⟩ ∧ (fd.params.posonlyargs ++ fd.params.args).head? = some ar ∧ ar.arg = me
  co : ∃ (cc : Value) (cd : Option Addr) (vs : Array Value) (cs : Array (Option Value)) (file : Str) (tf : Tok), K.lookup cda = some ⟨cc, cd, .fields vs, cs⟩ ∧ vs[2]? = some (.str file tf) ∧ ((prog.main.file : Str) == file) = true
  top : (prog.main.scope.names.lookup ("super" : Str)).isSome = false
section
variable {X : Cx} {pins : List (Addr × Obj)} {σ : L2.St} {H : Hp} {s : Shared} {C f cda a : Addr} {me : Str} {body : List Stmt}
theorem exo_inst (I : Inv X pins σ H s) (e : H a = some (exo a C none)) : ∃ o : Obj, PySem.W.InstAt s.heap a o C none ∧ (∀ c, o.data ≠ .cls c) := by
  obtain ⟨t1, ho⟩ := exo_at I.hok e
  exact ⟨_, ⟨ho, rfl, rfl, trivial⟩, fun c z => by cases z⟩
/-- super() -/
theorem run_super {p0 p1 : Pos} {whole : Sem Value} {E : Value → Shared → Prop} {i j : Nat} {Q : Value → Shared → Prop} (T : SupC X.prog X.K X.mg C f cda me) (I : Inv X pins σ H s) (hf : X.env.func = some f) (hco : X.env.code = .ref cda)
    (hks : X.env.kindOf "super" = some .globalImplicit) (hkc : X.env.kindOf "__class__" = some .free) (hme : X.env.kindOf me = some .local) (hcd : (me == ("__classdict__" : Str)) = false) (hi : X.N[i]? = some me) (hj : X.N[j]? = some ("__class__" : Str)) (vi : σ[i]? = some (some (.ref a))) (vj : σ[j]? = some (some (.ref C))) (e : H a = some (exo a C none))
    (h : ∀ so h', (∀ y o, s.heap.get? y = some o → h'.get? y = some o) → s.heap.objs.size ≤ so → h'.get? so = some (PySem.W.ks_superObj C a C) → Q (.ref so) { s with heap := h' }) :
    PySem.wpAt (model X.prog X.w) X.A (.func body X.env) (attributeBase (.Call (.Name "super" p0) [] [] p1) "__init__" X.env whole) Q E s := by
  obtain ⟨oc, od, fd, osl, ar, lf, hp, ea⟩ := T.fn
  obtain ⟨cc, cd, vs, cs, file, tf, lc, hvs, hfile⟩ := T.co
  have KX := I.kIn
  obtain ⟨o, IA, hnc⟩ := exo_inst I e
  obtain ⟨mb, b1, b2⟩ := I.mod.blt
  obtain ⟨m, hn, hl⟩ := I.loc
  refine PySem.ks_wpAt_super_base (env := X.env) hks hkc (by decide) hf (KX _ _ lf) rfl hp hco (KX _ _ lc) rfl hvs hfile T.top ?_
  refine PySem.W.ks_loadName_global I.ok.kind hks (Calls.loadGlobal_builtin (by rw [I.ok.glob]; exact I.mod.glob.keeps I.bk) T.un (by rw [I.ok.blt]; exact b1.keeps I.bk) ((b2 "super" (by decide)).trans (by rfl)) ⟨rfl, ?_⟩)
  have look : ∀ {k : Nat} {x : Str} {v : V} {Q' : Value → Shared → Prop} {E' : Value → Shared → Prop}, X.N[k]? = some x → σ[k]? = some (some v) → Vis X.env.scope x → (x == ("__classdict__" : Str)) = false → (∀ u, RelV v u → Q' u s) → wpAny (model X.prog X.w) X.A (loadName X.env x) Q' E' s := by
    intro k x v Q' E' hN hv vis hcd hq
    obtain ⟨u, r, l⟩ := hl k x v hN hv vis
    rcases l with ⟨hk, hm⟩ | ⟨hk, c, hc, hcell⟩
    · exact wpAny_loadName_local I.ok.kind hk hn hm (hq u r)
    · rcases hk with hk | hk
      · exact wpAny_loadName_cell I.ok.kind hk hc hcell (hq u r)
      · exact wpAny_loadName_free I.ok.kind hk hc hcell (hq u r) hcd
  refine look hj vj (.inr (.inr hkc)) (by decide) fun u r => ?_
  obtain rfl : u = Value.ref C := r
  subst ea
  refine look hi vi (.inl hme) hcd fun u r => ?_
  obtain rfl : u = Value.ref a := r
  obtain ⟨oD, cd, hD1, hD2⟩ : ∃ (oD : Obj) (cd : ClassData), s.heap.get? C = some oD ∧ oD.data = .cls cd := by
    have q := T.al
    unfold PySem.W.ks_superIn PySem.W.clsIn at q
    split at q
    · rename_i c d cd' sl ho
      exact ⟨_, _, KX _ _ ho, rfl⟩
    · cases q
  refine PySem.ks_wpAny_isType_cls hD1 hD2 ⟨rfl, ?_⟩
  obtain ⟨hp, g, d, t, os⟩ := s
  exact PySem.ks_wpAny_call_super hD1 hD2 IA.at_ IA.cls hnc (PySem.W.looks_mroIn KX T.sub) fun h' e2 k => h _ h' k (Nat.le_refl _) e2
abbrev mwO (a : Addr) : Obj := PySem.W.kxs_mw "ValueError.__init__" a
/-- the bound __init__ is called -/
theorem call_mw {u : Addr} {us : List Value} {Q : Value → Shared → Prop} {E : Value → Shared → Prop} (T : OexC X.K C) (I : Inv X ((u, mwO a) :: pins) σ H s) (e : H a = some (exo a C none)) (hl : us.length ≤ sizeLine) (h : ∀ s', Inv X ((u, mwO a) :: pins) σ H s' → Q .none s') :
    wpAny (model X.prog X.w) X.A (call (.ref u) us) Q E s := by
  obtain ⟨nm, q, N, bs, bm, sn, sub, ab, col, dd, k0, k1, k2, k3, k5, hC, hbm⟩ := T.cls
  obtain ⟨t1, ho⟩ := exo_at I.hok e
  have hu := (I.pin (u, mwO a) (List.mem_append_right _ List.mem_cons_self)).1
  obtain ⟨hp, g, d, t, os⟩ := s
  refine wpAny_call (codeAny_of_tree ?_)
  show wpAny _ X.A.in1 (callAny (.ref u) ⟨us, []⟩) _ _ _
  simp only [callAny]
  refine wpAny_bind (wpAny_load hu ?_)
  simp only [PySem.W.kxs_mw]
  rw [if_pos (by decide)]
  refine wpAny_bind (PySem.ESX.check_bound F.excBase_ValueError (I.kIn _ _ hC) ho rfl ?_)
  refine wpAny_bind (wpAny_pure (wpAny_pure ?_))
  refine ⟨Code.quiet_builtin _ (by decide +kernel), codeAny_builtin F.excBase_ValueError.initEntry ?_⟩
  rw [Around.under_plainId F.excBase_ValueError.init.plain _]
  wp_walk
  have hp1 : (hp.push { cls := .type "tuple", data := .seq us.toArray }).get? a = some ({ cls := .ref C, data := .fields #[.ref t1, .none, .none, .none, .bool false, .none] } : Obj) := Heap.get?_push_of_some _ ho
  have k : ∀ b o, b ≠ a → hp.get? b = some o → ((hp.push { cls := .type "tuple", data := .seq us.toArray }).update a (Obj.mapFields fun x => x.setIfInBounds 0 (Value.ref hp.objs.size))).get? b = some o := fun b o hb q => by
    rw [Heap.get?_update_ne _ _ _ _ hb]
    exact Heap.get?_push_of_some _ q
  have hx : ((hp.push { cls := .type "tuple", data := .seq us.toArray }).update a (Obj.mapFields fun x => x.setIfInBounds 0 (Value.ref hp.objs.size))).get? a = some ({ cls := .ref C, dict := none, data := .fields #[.ref hp.objs.size, .none, .none, .none, .bool false, .none] } : Obj) := by
    rw [Heap.get?_update_self _ hp1 rfl]
    rfl
  have J := I.write (t' := t) (x := a) (e := a) (o := exo a C none) (by rw [e]; exact True.intro) (.inl rfl) k ⟨_, hx⟩ (exo_ok hx)
  have eu : upd H a (exo a C none) = H := by
    funext b
    by_cases hb : b = a
    · rw [hb, upd_same, e]
    · rw [upd_ne hb]
  rw [eu] at J
  exact h _ J
/-- super().__init__(e, ..) -/
theorem run_supinit {p0 p1 p2 pos : Pos} {e1 : Expr} {es : List Expr} {ta : TA} {i j : Nat} {Q : VK} {pl : Sem Bool} (T : SupC X.prog X.K X.mg C f cda me) (I : Inv X pins σ H s) (hf : X.env.func = some f) (hco : X.env.code = .ref cda)
    (hks : X.env.kindOf "super" = some .globalImplicit) (hkc : X.env.kindOf "__class__" = some .free) (hme : X.env.kindOf me = some .local) (hcd : (me == ("__classdict__" : Str)) = false) (hi : X.N[i]? = some me) (hj : X.N[j]? = some ("__class__" : Str)) (vi : σ[i]? = some (some (.ref a))) (vj : σ[j]? = some (some (.ref C))) (e : H a = some (exo a C none))
    (ha : PA X (e1 :: es) ta) (h : ta σ H fun vs H1 => vs.length ≤ 1000 ∧ H1 a = some (exo a C none) ∧ Q .non H1)
    (he : eval (.Call (.Attribute (.Call (.Name "super" p0) [] [] p1) "__init__" p2) (e1 :: es) [] pos) X.env = (do
      let ov ← attributeBase (.Call (.Name "super" p0) [] [] p1) "__init__" X.env (eval (.Call (.Name "super" p0) [] [] p1) X.env)
      standAt p2.atName
      let (f, first) ← holding [ov] (getMethod ov "__init__" pl)
      callWith pos f first (backTo pos (starEach (e1 :: es) X.env)) []) := by rfl)
    (hs : starEach (e1 :: es) X.env = (false, eval e1 X.env) :: starEach es X.env := by rfl) (hpl : (backTo pos (starEach es X.env)).any (·.1) = false := by rfl) :
    PySem.wpAt (model X.prog X.w) X.A (.func body X.env) (eval (.Call (.Attribute (.Call (.Name "super" p0) [] [] p1) "__init__" p2) (e1 :: es) [] pos) X.env) (EP X pins σ Q) X.xe s := by
  refine PySem.ks_wpAt_MethodCall (pl := pl) (run_super T I hf hco hks hkc hme hcd hi hj vi vj e fun so h' k hso hobj => ?_) he
  have I1 : Inv X pins σ H { s with heap := h' } := I.kept (t' := s.toks) k
  have KX := I1.kIn
  obtain ⟨o, IA, _⟩ := exo_inst I1 e
  cases hc : PySem.W.clsIn X.K C with
  | none =>
    have q := T.al
    unfold PySem.W.ks_superIn at q
    rw [hc] at q
    cases q
  | some cd =>
    have al := T.al
    unfold PySem.W.ks_superIn at al
    rw [hc] at al
    obtain ⟨hp, g, d, t, os⟩ := s
    refine PySem.W.kxs_getMethod PySem.W.kxs_ValueError hobj (PySem.W.looks_opaque KX T.op) (l₀ := cd.mro) ?_ rfl KX al (IA.type.andThen (PySem.W.looks_subIn KX T.ve)) (PySem.W.ks_ne KX IA hc) (by decide) ?_
    · exact fun A' Q' E' s' k' q => wpAny_bind ((PySem.W.looks_clsIn KX hc) A' _ E' s' k' (wpAny_pure q))
    · have fr : H h'.objs.size = none := I1.hok.fresh (Nat.le_refl _)
      have I2 : Inv X pins σ H ⟨h'.push (mwO a), g, d, t + 1, os⟩ := Inv.kept (s := ⟨h', g, d, t, os⟩) (t' := t + 1) I1 fun b o q => Heap.get?_push_of_some _ q
      have hu : (h'.push (mwO a)).get? h'.objs.size = some (mwO a) := Heap.get?_push_size _ rfl
      have I3 : Inv X ((h'.objs.size, mwO a) :: pins) σ H ⟨h'.push (mwO a), g, d, t + 1, os⟩ := I2.pins_of fun p hp => by
        rcases List.mem_cons.mp hp with rfl | hp
        · exact ⟨hu, fr, Nat.ne_of_gt (Nat.lt_of_lt_of_le I1.lt (Nat.le_refl _)), I1.nofs (Nat.le_refl _), fun v z => nomatch z⟩
        · exact I2.pin p (List.mem_append_right _ hp)
      refine PySem.W.kxs_callWith (i := "ValueError.__init__") (x := a) (by rw [hs]; show (false || (backTo pos (starEach es X.env)).any (·.1)) = false; rw [hpl]; rfl) ?_
      rw [hs]
      refine Calls.evalArgs_plain ?_
      have r0 := ha.run pos _ _ σ H _ I3 h
      rw [hs] at r0
      refine thn r0 fun us s1 ⟨vs, H1, J, rv, hl, ea, q⟩ => ⟨(J.pin _ (List.mem_append_right _ List.mem_cons_self)).1, ?_⟩
      have hz : us.length ≤ sizeLine := by
        rw [← rv.length, sizeLine_eq]
        omega
      exact call_mw T.ow J ea hz fun s' J' => ⟨.non, H1, J'.pins_of fun p hp => J'.pin p (List.mem_append_right _ (List.mem_cons_of_mem _ hp)), rfl, q⟩
end
end FR

/-! An own error's __init__ that begins with super().__init__(..), as a promise. -/
namespace FR
open PySem PySem.Spec PyProof.Rows L2 NdefX
/-- how such a call is evaluated (by rfl, where the text is written) -/
def SupEval (env : Env) (p0 p1 p2 pos : Pos) (es : List Expr) : Prop := ∃ pl : Sem Bool, eval (.Call (.Attribute (.Call (.Name "super" p0) [] [] p1) "__init__" p2) es [] pos) env = (do
  let ov ← attributeBase (.Call (.Name "super" p0) [] [] p1) "__init__" env (eval (.Call (.Name "super" p0) [] [] p1) env)
  standAt p2.atName
  let (fn, fi) ← holding [ov] (getMethod ov "__init__" pl)
  callWith pos fn fi (backTo pos (starEach es env)) [])
section
variable {CX : CXT} {P : Program} {w : World} {K : PySem.W.Frag} {mg : Str → Option Value} {base : Heap} {k : Nat} {f cda cc C : Addr} {name qual me : Str} {params : Arguments} {scope : Scope} {kV doc pm ct oc : Value} {an od cld : Option Addr} {osl csl : Array (Option Value)} {cl : Value} {N ps : List Str} {sp : Sp}
  {p0 p1 p2 pos pE : Pos} {e1 : Expr} {es : List Expr} {rest : List Stmt}
theorem fn_init (lk : K.lookup f = some ⟨oc, od, .func (PySem.W.fnX name qual params (.Expr (.Call (.Attribute (.Call (.Name "super" p0) [] [] p1) "__init__" p2) (e1 :: es) [] pos) pE :: rest) scope [("__class__", cc)] .none kV doc pm an (.ref cda) ct), osl⟩) (hcd : PySem.W.codeIn K (.ref cda) qual = true)
    (hc : K.lookup cc = some ⟨cl, cld, .cell (some (.ref C)), csl⟩) (T : SupC P K mg C f cda me)
    (S : NScope N ps ["__class__"] scope) (hks : scope.names.lookup ("super" : Str) = some .globalImplicit) (hps : ∃ ps', ps = me :: ps') (hme : (me == ("__classdict__" : Str)) = false) (len : ∀ vs H Q E, sp vs H Q E → vs.length = ps.length)
    (hswap : ∀ L, swapsWith (.Call (.Attribute (.Call (.Name "super" p0) [] [] p1) "__init__" p2) (e1 :: es) [] pos) none pE.line (envF (cloF name qual params (.Expr (.Call (.Attribute (.Call (.Name "super" p0) [] [] p1) "__init__" p2) (e1 :: es) [] pos) pE :: rest) scope cc cda) f L) = pure false)
    (heval : ∀ L, SupEval (envF (cloF name qual params (.Expr (.Call (.Attribute (.Call (.Name "super" p0) [] [] p1) "__init__" p2) (e1 :: es) [] pos) pE :: rest) scope cc cda) f L) p0 p1 p2 pos (e1 :: es))
    (hstar : ∀ env : Env, starEach (e1 :: es) env = (false, eval e1 env) :: starEach es env) (hpl : ∀ env : Env, (backTo pos (starEach es env)).any (·.1) = false)
    (hbody : ∀ (A : Around) (outer : List Env) (s : Shared) (H : Hp) (vs : List V) (Q : VK) (E : XK), Room k (A.deeper (envF (cloF name qual params (.Expr (.Call (.Attribute (.Call (.Name "super" p0) [] [] p1) "__init__" p2) (e1 :: es) [] pos) pE :: rest) scope cc cda) f s.heap.objs.size)) → sp vs H Q E →
      ∃ (ta : TA) (tr : TS) (a : Addr), PA (ncx CX P w K mg base N (cloF name qual params (.Expr (.Call (.Attribute (.Call (.Name "super" p0) [] [] p1) "__init__" p2) (e1 :: es) [] pos) pE :: rest) scope cc cda) f A outer s H E) (e1 :: es) ta ∧
        PSs (ncx CX P w K mg base N (cloF name qual params (.Expr (.Call (.Attribute (.Call (.Name "super" p0) [] [] p1) "__init__" p2) (e1 :: es) [] pos) pE :: rest) scope cc cda) f A outer s H E) rest tr ∧ vs.head? = some (.ref a) ∧ H a = some (exo a C none) ∧
        ta (startF N vs [some (.ref C)]) H fun us H1 => us.length ≤ 1000 ∧ H1 a = some (exo a C none) ∧ tr { nx := fun _ H' => Q .non H', rt := Q } (startF N vs [some (.ref C)]) H1) :
    FnOk P w K mg base CX (k + 1) f (PySem.W.fnX name qual params (.Expr (.Call (.Attribute (.Call (.Name "super" p0) [] [] p1) "__init__" p2) (e1 :: es) [] pos) pE :: rest) scope [("__class__", cc)] .none kV doc pm an (.ref cda) ct) ps sp := by
  refine ⟨len, fun A outer s H args us vs Q E hr e0 hb r hsp => ?_⟩
  have hl := len _ _ _ _ hsp
  have KX : K.In s.heap := e0.mod.kin.keeps fun b o e => (e0.bs b o e).1
  have kH : ∀ b o, K.lookup b = some o → H b = none := fun b o e => (e0.bs b o (e0.mod.kin _ _ e)).2
  have lim : s.heap.NoLimit := e0.mod.nolimit.keeps fun b o e => (e0.bs b o e).1
  refine codeAny_call_function hr.depth (KX _ _ lk) rfl S.co S.gen rfl (PySem.W.codeRec_of KX hcd) (hb _ _ _ _ ?_)
  refine wpAny_newFunctionEnv S.nocell (fun ⟨n, _⟩ hy => S.par n (List.of_mem_zip hy).1) (fun h₁ hns hsb => ⟨lim.fresh _ hsb, ?_⟩) S.kind
  show codeAny _ _ (.func (cloF name qual params (.Expr (.Call (.Attribute (.Call (.Name "super" p0) [] [] p1) "__init__" p2) (e1 :: es) [] pos) pE :: rest) scope cc cda).body (envF (cloF name qual params (.Expr (.Call (.Attribute (.Call (.Name "super" p0) [] [] p1) "__init__" p2) (e1 :: es) [] pos) pE :: rest) scope cc cda) f s.heap.objs.size)) _ _
  obtain ⟨ta, tr, a, hta, htr, hv0, hHa, hq⟩ := hbody A outer s H vs Q E (hr.deeper _) hsp
  obtain ⟨pl, hev⟩ := heval s.heap.objs.size
  have hsw := hswap s.heap.objs.size
  have kp : ∀ b o, s.heap.get? b = some o → h₁.get? b = some o := fun b o e => hsb.extBut b o (Nat.ne_of_lt (Heap.lt_size e)) (Heap.get?_push_of_some _ e)
  generalize hF : cloF name qual params (.Expr (.Call (.Attribute (.Call (.Name "super" p0) [] [] p1) "__init__" p2) (e1 :: es) [] pos) pE :: rest) scope cc cda = F at hta htr hev hsw ⊢
  have I : Inv (ncx CX P w K mg base N F f A outer s H E) [] (startF N vs [some (.ref C)]) H { s with heap := h₁, toks := s.toks + (ps.zip us).length } := by
    subst hF
    exact inv_startN S hr.hd e0 hl r (clo_cells KX kH hc) hns kp
  have hbd : F.body = (.Expr (.Call (.Attribute (.Call (.Name "super" p0) [] [] p1) "__init__" p2) (e1 :: es) [] pos) pE :: rest) := by subst hF; rfl
  have hsc : F.scope = scope := by subst hF; rfl
  have hcc : F.c = cda := by subst hF; rfl
  obtain ⟨ps', rfl⟩ := hps
  have hN0 : N[0]? = some me := by
    have q := congrArg (fun l => l[0]?) S.pre
    rw [List.getElem?_take_of_lt (by simp only [List.length_cons]; omega)] at q
    exact q
  have hN1 : N[(me :: ps').length]? = some ("__class__" : Str) := by
    have q := congrArg (fun l => l[(me :: ps').length]?) S.pre
    rw [List.getElem?_take_of_lt (by simp only [List.length_cons, List.length_nil]; omega), List.getElem?_append_right (Nat.le_refl _), Nat.sub_self] at q
    exact q
  have vi : (startF N vs [some (.ref C)])[0]? = some (some (.ref a)) := by
    unfold startF
    cases vs with
    | nil => cases hv0
    | cons v vr =>
      simp at hv0
      subst hv0
      rfl
  have vj : (startF N vs [some (.ref C)])[(me :: ps').length]? = some (some (.ref C)) := by
    unfold startF
    rw [List.getElem?_append_right (by rw [List.length_map, hl]; exact Nat.le_refl _), List.length_map, hl, Nat.sub_self]
    rfl
  rw [hbd]
  refine PySem.ks_codeAny_funcAt (PySem.ks_wpAt_execs_cons (PySem.ks_wpAt_Expr_any (PySem.wpAt_mono (run_supinit (X := ncx CX P w K mg base N F f A outer s H E) (i := 0) (j := (me :: ps').length) (Q := fun _ H1 => tr { nx := fun _ H' => Q .non H', rt := Q } (startF N vs [some (.ref C)]) H1) T I rfl (by show Value.ref F.c = _; rw [hcc]) (by show F.scope.names.lookup _ = _; rw [hsc]; exact hks)
    (by show F.scope.names.lookup _ = _; rw [hsc]; exact S.frk _ (by simp)) (by show F.scope.names.lookup _ = _; rw [hsc]; exact S.par _ (by simp)) hme hN0 hN1 vi vj hHa hta hq hev (hstar _) (hpl _)) (fun v s1 hv => ?_) fun e s' hs => hs) I.quiet hsw))
  obtain ⟨x, H1, J, rx, q⟩ := hv
  refine PySem.wpAt_of_wpAny (wpAny_mono (htr.run [] _ (startF N vs [some (.ref C)]) H1 _ J q) (fun fl s' hs => ?_) fun e s' hs => hs)
  have fin : ∀ {σ' : L2.St} {H' : Hp} {v : V} {u : Value}, Inv (ncx CX P w K mg base N F f A outer s H E) [] σ' H' s' → L2.RelV v u → Q v H' → CE outer P w H s Q u s' := fun J rv q => ⟨_, _, J.os, J.bare, J.base, J.hok, rv, q⟩
  cases fl with
  | ret u =>
    obtain ⟨v, σ', H', J, rv, q⟩ := hs
    exact fin J rv q
  | next =>
    obtain ⟨σ', H', J, q⟩ := hs
    exact fin (v := V.non) (u := Value.none) J rfl q
  | brk =>
    obtain ⟨_, _, _, q⟩ := hs
    exact False.elim q
  | cont =>
    obtain ⟨_, _, _, q⟩ := hs
    exact False.elim q
end
end FR

/-! {x} in an f-string, x a text, an int, or a tuple of ints; the __init__ of an own error with one value. -/
namespace FR
open PySem PySem.Spec PyProof.Rows L2 NdefX
def IntOk (i : Int) : Prop := i.natAbs.log2 < 1920
theorem int_len {i : Int} (h : IntOk i) : (Str.ofString (toString i)).length ≤ 1921 := by
  have e := int_text_length_le (k := 1920) (by decide) h
  rw [PySem.ofString_length]
  exact e
/-- what may stand in the message -/
def Said (K : PySem.W.Frag) (H : Hp) (v : V) : Prop := (∃ y : Str, v = .str y ∧ y.length ≤ 1000) ∨ (∃ i : Int, v = .int i ∧ IntOk i) ∨ ∃ (a : Addr) (ns : List Int), v = .ref a ∧ SqT K H a (ns.map V.int) ∧ ns.length ≤ 10 ∧ ∀ i ∈ ns, IntOk i
def tSay (K : PySem.W.Frag) (te : TE) : TE := fun σ H Q => te σ H fun x H1 => Said K H1 x ∧ ∀ m : Str, m.length ≤ 30000 → Q (.str m) H1
theorem repr_ints {prog : Program} {w : World} : ∀ {ns : List Int} {its : List Value}, Vals (ns.map V.int) its → (∀ i ∈ ns, IntOk i) → ReprAll prog w its (ns.map fun i => Str.ofString (toString i))
  | [], _, .nil, _ => .nil
  | n :: ns, _, .cons ⟨t, e⟩ r, h => by
    subst e
    exact .cons (ReprIs.int t (h n List.mem_cons_self)) (repr_ints r fun i m => h i (List.mem_cons_of_mem _ m))
theorem pile_ints : ∀ {ns : List Int}, (∀ i ∈ ns, IntOk i) → piled (ns.map fun i => Str.ofString (toString i)) ≤ 1923 * ns.length
  | [], _ => Nat.zero_le _
  | n :: ns, h => by
    have q := pile_ints (ns := ns) fun i m => h i (List.mem_cons_of_mem _ m)
    have q2 := int_len (h n List.mem_cons_self)
    rw [List.map_cons, piled_cons, List.length_cons]
    omega
section
variable {X : Cx}
theorem pe_say {e : Expr} {te : TE} {pos : Pos} {k : Nat} (hr : L2.Room k X.A) (he : PE X e te) : PE X (.FormattedValue e (-1) none pos) (tSay X.K te) := by
  refine ⟨fun pins s σ H Q I h => ?_⟩
  refine wpAny_FormattedValue_plain (thn (he.run pins s σ H _ I h) fun v s1 hv => ?_)
  obtain ⟨x, H1, I1, r1, sd, q⟩ := hv
  rcases sd with ⟨y, rfl, hz⟩ | ⟨i, rfl, hz⟩ | ⟨a, ns, rfl, ht, hl, hi⟩
  · obtain ⟨t, rfl⟩ := r1
    have q1 := q y (by omega)
    exact wpAny_formatField_str ⟨.str y, H1, I1, ⟨t, rfl⟩, q1⟩ ⟨.str y, H1, I1.tok _, ⟨_, rfl⟩, q1⟩ (by rw [sizeLine_eq]; omega)
  · obtain ⟨t, rfl⟩ := r1
    exact wpAny_formatField_int hz ⟨.str (toString i), H1, I1.tok _, ⟨_, rfl⟩, q _ (by have := int_len hz; omega)⟩
  · cases r1
    obtain ⟨its, rv, ⟨o, ho, hcl, n, hd⟩, _⟩ := I1.tuple ht
    have hp := pile_ints hi
    have htx := fmt_text (ns.map fun i => Str.ofString (toString i))
    have hu := hr.units
    have hsl := sizeLine_eq
    exact fmt_tuple (ts := ns.map fun i => Str.ofString (toString i)) (by omega) ho hcl hd (repr_ints rv hi) (by omega) fun m u tk hm => ⟨.str m, H1, I1.tok _, ⟨u, rfl⟩, q m (by omega)⟩
end
/-- an own error's __init__(self, what) -/
def spInit (K : PySem.W.Frag) (C : Addr) : Sp := fun vs H Q _ => ∃ (a : Addr) (v : V), vs = [.ref a, v] ∧ H a = some (exo a C none) ∧ Said K H v ∧ ∀ dx, H dx = none → dx ≠ a → Q .non (upd (upd H dx (exd dx [("what", v)])) a (exo a C (some dx)))
end FR

/-! How a deed is written. -/
namespace FR
open PySem PySem.Spec PyProof.Rows L2
def intS (i : Int) : Str := toString i
theorem intOk_of {i : Int} (h0 : 0 ≤ i) (h1 : i < 10 ^ 9) : IntOk i := by
  unfold IntOk
  by_cases h : i.natAbs = 0
  · rw [h]; decide
  · rw [Nat.log2_lt h]
    have : i.natAbs < 2 ^ 30 := by omega
    exact Nat.lt_trans this (Nat.pow_lt_pow_right (by decide) (by decide))
theorem intS_len {i : Int} (h : IntOk i) : (intS i).length ≤ 1921 := int_len h
def What.Num : What → Prop
  | .give _ _ m => 0 ≤ m ∧ m < 10 ^ 9
  | .take _ _ m => 0 ≤ m ∧ m < 10 ^ 9
  | .use _ _ => True
structure Act.Num (a : Act) : Prop where
  who : 0 ≤ a.who ∧ a.who < 10 ^ 9
  num : 0 ≤ a.num ∧ a.num < 10 ^ 9
  note : ∀ x ∈ a.note, 0 ≤ x ∧ x < 10 ^ 9
  len : a.note.length ≤ 6
  pos : a.note ≠ []
  what : a.what.Num
  fit : a.what.Fit
def What.strs : What → List Str
  | .give p k m => ["give", p, k, intS m]
  | .take p k m => ["take", p, k, intS m]
  | .use p v => ["use", p, v]
def noteS (ns : List Int) : Str := Txt.join "." (ns.map intS)
def wordsS (w : What) : Str := Txt.join " " w.strs
def Act.shown (a : Act) : Str := Str.empty ++ intS a.who ++ "." ++ intS a.num ++ " seen " ++ noteS a.note ++ " " ++ wordsS a.what
theorem len_app (x y : Str) : (x ++ y).length = x.length + y.length := by rw [TL.len_tl, TL.tl_append, List.length_append, ← TL.len_tl, ← TL.len_tl]
theorem joinL_len (S : List Nat) : ∀ l : List (List Nat), (TL.joinL S l).length ≤ (l.map List.length).sum + l.length * S.length
  | [] => Nat.zero_le _
  | [p] => by simp [TL.joinL]
  | p :: q :: r => by
    have h := joinL_len S (q :: r)
    have e : (TL.joinL S (p :: q :: r)).length = p.length + (S.length + (TL.joinL S (q :: r)).length) := by
      show (p ++ (S ++ TL.joinL S (q :: r))).length = _
      rw [List.length_append, List.length_append]
    rw [e, List.map_cons, List.sum_cons, List.length_cons, Nat.succ_mul]
    omega
theorem join_len (y : Str) (l : List Str) : (Txt.join y l).length ≤ (l.map (·.length)).sum + l.length * y.length := by
  rw [TL.len_tl, TL.join_eq, TL.tl_join]
  have h := joinL_len (TL.tl y) (l.map TL.tl)
  rw [List.map_map, List.length_map] at h
  have e : (List.map (List.length ∘ TL.tl) l) = l.map (·.length) := by
    refine List.map_congr_left fun x _ => ?_
    show (TL.tl x).length = x.length
    rw [TL.len_tl]
  rw [e] at h
  rw [TL.len_tl y]
  exact h
theorem sum_le {l : List Nat} {b : Nat} (h : ∀ x ∈ l, x ≤ b) : l.sum ≤ l.length * b := by
  induction l with
  | nil => exact Nat.zero_le _
  | cons x r ih =>
    have h1 := h x List.mem_cons_self
    have h2 := ih fun y m => h y (List.mem_cons_of_mem _ m)
    rw [List.sum_cons, List.length_cons, Nat.succ_mul]
    omega
theorem note_sum {ns : List Int} (h : ∀ x ∈ ns, 0 ≤ x ∧ x < 10 ^ 9) (hl : ns.length ≤ 6) : ((ns.map intS).map (·.length)).sum + (ns.map intS).length * Str.length "." ≤ 20000 := by
  have h1 := sum_le (l := (ns.map intS).map (·.length)) (b := 1921) fun x m => by
    obtain ⟨s, ms, rfl⟩ := List.mem_map.mp m
    obtain ⟨i, mi, rfl⟩ := List.mem_map.mp ms
    exact intS_len (intOk_of (h i mi).1 (h i mi).2)
  have e : Str.length "." = 1 := by decide +kernel
  rw [List.length_map, List.length_map] at h1
  rw [e, List.length_map]
  omega
theorem word_len {s : Str} (h : WordOk s) : s.length ≤ 8 := by
  rw [TL.len_tl]
  exact h.2.1
theorem kind_len {s : Str} (h : KindOk s) : s.length ≤ 8 := by rcases h with rfl | rfl <;> decide +kernel
theorem strs_len {w : What} (hf : w.Fit) (hn : w.Num) : (∀ s ∈ w.strs, s.length ≤ 1921) ∧ w.strs.length ≤ 4 := by
  have e1 : Str.length "give" ≤ 1921 := by decide +kernel
  have e2 : Str.length "take" ≤ 1921 := by decide +kernel
  have e3 : Str.length "use" ≤ 1921 := by decide +kernel
  cases w with
  | give p k m =>
    have h1 := word_len hf.1
    have h2 := kind_len hf.2
    have h3 := intS_len (intOk_of hn.1 hn.2)
    refine ⟨fun s ms => ?_, Nat.le_refl _⟩
    simp only [What.strs, List.mem_cons, List.not_mem_nil, or_false] at ms
    rcases ms with rfl | rfl | rfl | rfl <;> omega
  | take p k m =>
    have h1 := word_len hf.1
    have h2 := kind_len hf.2
    have h3 := intS_len (intOk_of hn.1 hn.2)
    refine ⟨fun s ms => ?_, Nat.le_refl _⟩
    simp only [What.strs, List.mem_cons, List.not_mem_nil, or_false] at ms
    rcases ms with rfl | rfl | rfl | rfl <;> omega
  | use p v =>
    have h1 := word_len hf.1
    have h2 := word_len hf.2
    refine ⟨fun s ms => ?_, (by show 3 ≤ 4; decide)⟩
    simp only [What.strs, List.mem_cons, List.not_mem_nil, or_false] at ms
    rcases ms with rfl | rfl | rfl <;> omega
theorem blank_len : Str.length " " = 1 := by decide +kernel
theorem strs_sum {w : What} (hf : w.Fit) (hn : w.Num) : (w.strs.map (·.length)).sum + w.strs.length * Str.length " " ≤ 8000 := by
  obtain ⟨h1, h2⟩ := strs_len hf hn
  have h3 := sum_le (l := w.strs.map (·.length)) (b := 1921) fun x m => by
    obtain ⟨s, ms, rfl⟩ := List.mem_map.mp m
    exact h1 s ms
  rw [List.length_map] at h3
  rw [blank_len]
  omega
theorem noteS_len {ns : List Int} (h : ∀ x ∈ ns, 0 ≤ x ∧ x < 10 ^ 9) (hl : ns.length ≤ 6) : (noteS ns).length ≤ 20000 := Nat.le_trans (join_len _ _) (note_sum h hl)
theorem wordsS_len {w : What} (hf : w.Fit) (hn : w.Num) : (wordsS w).length ≤ 8000 := Nat.le_trans (join_len _ _) (strs_sum hf hn)
/-- the law's writing is the same -/
theorem shown_law (a : Act) : Txt.join " " ([intS a.who ++ "." ++ intS a.num, "seen", noteS a.note] ++ a.what.strs) = a.shown := by
  refine TL.ext_tl ?_
  have e1 : TL.tl " seen " = TL.tl " " ++ (TL.tl "seen" ++ TL.tl " ") := by decide +kernel
  have e0 : TL.tl Str.empty = [] := rfl
  have h : ∀ (A B C : List Nat) (l : List (List Nat)), l ≠ [] → TL.joinL (TL.tl " ") ([A, B, C] ++ l) = A ++ (TL.tl " " ++ (B ++ (TL.tl " " ++ (C ++ (TL.tl " " ++ TL.joinL (TL.tl " ") l))))) := by
    intro A B C l hl
    cases l with
    | nil => exact absurd rfl hl
    | cons x r => rfl
  have ne : a.what.strs.map TL.tl ≠ [] := by cases a.what <;> simp [What.strs]
  unfold Act.shown wordsS
  rw [TL.join_eq, TL.tl_join, List.map_append]
  rw [show List.map TL.tl [intS a.who ++ "." ++ intS a.num, "seen", noteS a.note] = [TL.tl (intS a.who ++ "." ++ intS a.num), TL.tl "seen", TL.tl (noteS a.note)] from rfl, h _ _ _ _ ne]
  rw [TL.join_eq]
  simp only [TL.tl_append, TL.tl_join, e0, e1, List.nil_append, List.append_assoc]
theorem shown_len {a : Act} (h : a.Num) : a.shown.length ≤ 40000 := by
  have h1 := intS_len (intOk_of h.who.1 h.who.2)
  have h2 := intS_len (intOk_of h.num.1 h.num.2)
  have h3 := noteS_len h.note h.len
  have h4 := wordsS_len h.fit h.what
  have e0 : Str.empty.length = 0 := rfl
  have e1 : Str.length "." = 1 := by decide +kernel
  have e2 : Str.length " seen " = 6 := by decide +kernel
  unfold Act.shown
  simp only [len_app, e0, e1, e2, blank_len]
  omega
section
variable {X : Cx}
/-- str of an int or a text -/
theorem call_strOf : CallR X (.type "str") (fun xs H Q => (∃ i, xs = [.int i] ∧ IntOk i ∧ Q (.str (intS i)) H) ∨ ∃ a, xs = [.str a] ∧ Q (.str a) H) := by
  intro pins s σ H xs us Q I r h
  rcases h with h | h
  · exact call_str_int pins s σ H xs us Q I r h
  · exact SkE.call_str_str pins s σ H xs us Q I r h
end
/-- the writing of a deed -/
def spShown : Sp := fun vs H Q _ => ∃ (p : Addr) (a : Act), vs = [.ref p] ∧ ActAt H p a ∧ a.Num ∧ ∀ H' : Hp, Same H H' → Q (.str a.shown) H'
def What.parts : What → List V := What.vs
/-- each part's text, from its value -/
def strOf : V → Str
  | .int i => intS i
  | .str s => s
  | _ => Str.empty
theorem parts_str (w : What) : w.vs.map (fun v => V.str (strOf v)) = w.strs.map V.str := by cases w <;> rfl
theorem part_ok {w : What} (hn : w.Num) : ∀ v ∈ w.vs, (∃ i, v = .int i ∧ IntOk i) ∨ ∃ s, v = .str s := by
  cases w with
  | give p k m =>
    intro v mv
    simp only [What.vs, List.mem_cons, List.not_mem_nil, or_false] at mv
    rcases mv with rfl | rfl | rfl | rfl
    · exact .inr ⟨_, rfl⟩
    · exact .inr ⟨_, rfl⟩
    · exact .inr ⟨_, rfl⟩
    · exact .inl ⟨_, rfl, intOk_of hn.1 hn.2⟩
  | take p k m =>
    intro v mv
    simp only [What.vs, List.mem_cons, List.not_mem_nil, or_false] at mv
    rcases mv with rfl | rfl | rfl | rfl
    · exact .inr ⟨_, rfl⟩
    · exact .inr ⟨_, rfl⟩
    · exact .inr ⟨_, rfl⟩
    · exact .inl ⟨_, rfl, intOk_of hn.1 hn.2⟩
  | use p v' =>
    intro v mv
    simp only [What.vs, List.mem_cons, List.not_mem_nil, or_false] at mv
    rcases mv with rfl | rfl | rfl
    · exact .inr ⟨_, rfl⟩
    · exact .inr ⟨_, rfl⟩
    · exact .inr ⟨_, rfl⟩
end FR

namespace FR
open PySem PySem.Spec PyProof.Rows L2
structure Blt2 (mg : Str → Option Value) extends Blt mg where
  all : mg "all" = none
  any : mg "any" = none
  min : mg "min" = none
  dict : mg "dict" = none
  abs : mg "abs" = none
  enumerate : mg "enumerate" = none
/-- the numbers of a world are small -/
theorem zipWith_low {b : Int} : ∀ {r s : List Int}, (∀ x ∈ r, x ≤ b) → (∀ x ∈ s, x ≤ b) → ∀ x ∈ List.zipWith max r s, x ≤ b
  | [], _, _, _, x, h => by simp at h
  | _ :: _, [], _, _, x, h => by simp at h
  | a :: r, c :: s, hr, hs, x, h => by
    rw [List.zipWith_cons_cons, List.mem_cons] at h
    rcases h with rfl | h
    · have := hr a (List.mem_cons_self ..)
      have := hs c (List.mem_cons_self ..)
      omega
    · exact zipWith_low (fun y m => hr y (List.mem_cons_of_mem _ m)) (fun y m => hs y (List.mem_cons_of_mem _ m)) x h
theorem Wd.low {many : Nat} {acts : List Act} {known : List (List Int)} (h : Wd many acts known) : (∀ r ∈ known, ∀ x ∈ r, x ≤ acts.length) ∧
    ∀ a ∈ acts, 0 ≤ a.who ∧ a.who < many ∧ 0 ≤ a.num ∧ a.num ≤ acts.length ∧ (∀ x ∈ a.note, x ≤ acts.length) ∧ ∃ i : Int, 0 ≤ i ∧ a.what.Ok i many := by
  induction h with
  | nil =>
    refine ⟨fun r m x mx => ?_, fun a m => by cases m⟩
    rw [(List.mem_replicate.mp m).2] at mx
    rw [(List.mem_replicate.mp mx).2]
    exact Int.le_refl 0
  | @step acts known i row row' c wt w hi hr hc ok ih =>
    obtain ⟨ih1, ih2⟩ := ih
    have nn := w.nonneg
    have hl := w.lens
    have h1 : ∀ x ∈ row', x ≤ acts.length := by
      rcases hr with rfl | ⟨j, ro, hj, rfl⟩
      · exact ih1 _ (List.mem_of_getElem? hi)
      · exact zipWith_low (ih1 _ (List.mem_of_getElem? hi)) (ih1 _ (List.mem_of_getElem? hj))
    have h0 : ∀ x ∈ row', 0 ≤ x := by
      rcases hr with rfl | ⟨j, ro, hj, rfl⟩
      · exact nn _ (List.mem_of_getElem? hi)
      · exact zipWith_nonneg (nn _ (List.mem_of_getElem? hi)) (nn _ (List.mem_of_getElem? hj))
    have c1 := h1 c (List.mem_of_getElem? hc)
    have c0 := h0 c (List.mem_of_getElem? hc)
    have il : i < many := by
      rw [← hl.1]
      exact (List.getElem?_eq_some_iff.mp hi).1
    rw [List.length_append, List.length_singleton]
    refine ⟨fun r m x mx => ?_, fun a m => ?_⟩
    · rcases List.mem_or_eq_of_mem_set m with m | rfl
      · have := ih1 r m x mx
        omega
      · rcases List.mem_or_eq_of_mem_set mx with mx | rfl
        · have := h1 x mx
          omega
        · omega
    · rcases List.mem_append.mp m with m | m
      · obtain ⟨q1, q2, q3, q4, q5, q6⟩ := ih2 a m
        exact ⟨q1, q2, q3, by omega, fun x mx => by have := q5 x mx; omega, q6⟩
      · rw [List.mem_singleton.mp m]
        exact ⟨Int.natCast_nonneg i, by show (i : Int) < many; omega, by show 0 ≤ c + 1; omega, by show c + 1 ≤ _; omega, fun x mx => by have := h1 x mx; omega, i, Int.natCast_nonneg i, ok⟩
theorem What.Ok.num {i many : Int} (h0 : 0 ≤ i) (h6 : many ≤ 6) : ∀ {w : What}, w.Ok i many → w.Num
  | .give p k m, h => ⟨by have := h.2.2.1; omega, by have := h.2.2.2; omega⟩
  | .take p k m, h => ⟨by have := h.2.2.1; omega, by have := h.2.2.2; omega⟩
  | .use _ _, h => trivial
theorem Wd.nums {many : Nat} {acts : List Act} {known : List (List Int)} (h : Wd many acts known) (h1 : 1 ≤ many) (h6 : many ≤ 6) (hl : (acts.length : Int) ≤ 1000) : ∀ a ∈ acts, a.Num := fun a m => by
  obtain ⟨q1, q2, q3, q4, q5, i, i0, q6⟩ := h.low.2 a m
  obtain ⟨p1, p2, p3⟩ := h.plain a m
  exact ⟨⟨q1, by omega⟩, ⟨q3, by omega⟩, fun x mx => ⟨p2 x mx, by have := q5 x mx; omega⟩, by omega, fun e => by rw [e, List.length_nil] at p1; omega, q6.num i0 (by omega), p3⟩
theorem tup_eqv {ds : List PyData} (h : SeqAt.shaped (.tuple ds) = true) : PyData.eqv (.tuple ds) (.tuple ds) = true := SeqAt.eqv_refl _ (SeqAt.canLay_of_shaped h)
/-- what a list of two holds -/
def Num (i : Int) : Prop := 0 ≤ i ∧ i < 10 ^ 9
theorem two_at {a b : Int} {k : Int} (h0 : 0 ≤ k) (h1 : k < 2) (ha : Num a) (hb : Num b) : ∃ z : Int, atI ([.int a, .int b] : List V) k = some (.int z) ∧ Num z := by
  have e : k = 0 ∨ k = 1 := by omega
  rcases e with rfl | rfl
  · exact ⟨a, rfl, ha⟩
  · exact ⟨b, rfl, hb⟩
theorem three_at {a b c : Int} {k : Int} (h0 : 0 ≤ k) (h1 : k < 3) (ha : Num a) (hb : Num b) (hc : Num c) : ∃ z : Int, atI ([.int a, .int b, .int c] : List V) k = some (.int z) ∧ Num z := by
  have e : k = 0 ∨ k = 1 ∨ k = 2 := by omega
  rcases e with rfl | rfl | rfl
  · exact ⟨a, rfl, ha⟩
  · exact ⟨b, rfl, hb⟩
  · exact ⟨c, rfl, hc⟩
theorem gt_at {k : Int} (h0 : 0 ≤ k) (h1 : k < 2) : ∃ s : Str, atI ([.str "give", .str "take"] : List V) k = some (.str s) ∧ (s = "give" ∨ s = "take") := by
  have e : k = 0 ∨ k = 1 := by omega
  rcases e with rfl | rfl
  · exact ⟨_, rfl, .inl rfl⟩
  · exact ⟨_, rfl, .inr rfl⟩
theorem seq_kp {K : PySem.W.Frag} {S : List Addr} {H H' : Hp} {a : Addr} {xs : List V} (h : SqL K H a xs) (k : Kp S H H') (f : ∀ b ∈ S, H b = none) : SqL K H' a xs := by
  have ne : ∀ o, H a = some o → a ∉ S := fun o e m => by
    rw [f a m] at e
    cases e
  rcases h with (h | ⟨o, h⟩) | h
  · exact .inl (.inl (k.kp _ _ h (ne _ h)))
  · exact .inl (.inr ⟨o, k.kp _ _ h (ne _ h)⟩)
  · exact .inr h
def spAny : Sp := fun vs H Q _ => ∃ (t g : Addr) (N : Nat), vs = [.ref t] ∧ TrayAt H t g N ∧ N < 2 ^ 59 ∧
  ∀ (H' : Hp) (p : Addr) (a : Act), H p = none → ActAt H' p a → a.Num → TrayAt H' t g (N + 200) → Kp [t, g] H H' → Q (.ref p) H'
end FR

/-! Writings read back: what the texts of numbers and names are. -/
namespace FR
open PySem PySem.Spec PyProof.Rows L2
theorem tl_intS {i : Int} (h0 : 0 ≤ i) : TL.tl (intS i) = TL.numL i.toNat := by
  obtain ⟨n, rfl⟩ := Int.eq_ofNat_of_zero_le h0
  rw [Int.toNat_natCast]
  exact TL.tl_num n
theorem digit_of {n c : Nat} (h : c ∈ TL.numL n) : 48 ≤ c ∧ c ≤ 57 := TL.numL_digits n c h
theorem all_of {x : Str} {f : Nat → Bool} (h : ∀ c ∈ TL.tl x, f c = true) : x.cps.all f = true := by
  rw [Array.all_eq_true]
  intro i hi
  exact h _ (by show x.cps[i] ∈ x.cps.toList; simp)
theorem any_of {x : Str} {f : Nat → Bool} {c : Nat} (hc : c ∈ TL.tl x) (h : f c = true) : x.cps.any f = true := by
  rw [Array.any_eq_true]
  obtain ⟨i, hi, e⟩ := List.getElem_of_mem hc
  exact ⟨i, by simpa using hi, by
    have e2 : x.cps[i]'(by simpa using hi) = c := by rw [← e]; simp
    rw [e2]
    exact h⟩
theorem none_of {x : Str} {f : Nat → Bool} (h : ∀ c ∈ TL.tl x, f c = false) : x.cps.any f = false := by
  cases e : x.cps.any f with
  | false => rfl
  | true =>
    rw [Array.any_eq_true] at e
    obtain ⟨i, hi, e⟩ := e
    rw [h _ (by show x.cps[i] ∈ x.cps.toList; simp)] at e
    cases e
theorem dig_facts : ∀ d : Fin 10, Unicode.isDigit (48 + d.val) = true := by decide +kernel
theorem low_facts : ∀ d : Fin 26, Unicode.isAlpha (97 + d.val) = true ∧ Unicode.isLower (97 + d.val) = true ∧ (Unicode.isUpper (97 + d.val) || Unicode.isTitle (97 + d.val)) = false := by decide +kernel
theorem dig_at {c : Nat} (h : 48 ≤ c ∧ c ≤ 57) : Unicode.isDigit c = true := by
  have q := dig_facts ⟨c - 48, by omega⟩
  rw [show 48 + (c - 48) = c by omega] at q
  exact q
theorem low_at {c : Nat} (h : 97 ≤ c ∧ c ≤ 122) : Unicode.isAlpha c = true ∧ Unicode.isLower c = true ∧ (Unicode.isUpper c || Unicode.isTitle c) = false := by
  have q := low_facts ⟨c - 97, by omega⟩
  rw [show 97 + (c - 97) = c by omega] at q
  exact q
theorem pos_of_ne {x : Str} (h : TL.tl x ≠ []) : decide (x.length > 0) = true := by
  refine decide_eq_true ?_
  rw [TL.len_tl]
  exact Nat.pos_of_ne_zero fun e => h (List.length_eq_zero_iff.mp e)
section
variable {i : Int}
theorem num_ascii (h0 : 0 ≤ i) : Txt.isascii (intS i) = true := all_of fun c m => by
  rw [tl_intS h0] at m
  have := digit_of m
  exact decide_eq_true (by omega)
theorem num_digit (h0 : 0 ≤ i) : Txt.isdigit (intS i) = true := by
  unfold Txt.isdigit
  rw [Bool.and_eq_true]
  refine ⟨pos_of_ne (by rw [tl_intS h0]; exact TL.numL_ne _), all_of fun c m => ?_⟩
  rw [tl_intS h0] at m
  exact dig_at (digit_of m)
theorem num_len (h : Num i) : (intS i).length ≤ 9 := by
  rw [TL.len_tl, tl_intS h.1]
  exact TL.numL_len (by decide) (by have := h.2; omega)
theorem numL_head : ∀ {n : Nat}, n ≠ 0 → ∃ c r, TL.numL n = c :: r ∧ c ≠ 48 := fun {n} => by
  induction n using Nat.strongRecOn with
  | _ n ih =>
    intro h
    by_cases lt : n < 10
    · exact ⟨48 + n, [], TL.numL_lt lt, by omega⟩
    · obtain ⟨c, r, e, hc⟩ := ih (n / 10) (by omega) (by omega)
      exact ⟨c, r ++ [48 + n % 10], by rw [TL.numL_step (by omega), e]; rfl, hc⟩
theorem num_zero (h0 : 0 ≤ i) : (decide ((V.str (intS i)) = V.str "0") || !Txt.startswith (intS i) "0") = true := by
  by_cases e : i = 0
  · subst e
    have : intS 0 = "0" := by decide +kernel
    rw [this]
    simp
  · rw [Bool.or_eq_true]
    refine .inr ?_
    obtain ⟨c, r, ht, hc⟩ := numL_head (n := i.toNat) (by omega)
    rw [← tl_intS h0] at ht
    have : Txt.startswith (intS i) "0" = false := by
      unfold Txt.startswith
      rw [Bool.and_eq_false_iff]
      refine .inr ?_
      cases hs : Builtin.Str.subAt (intS i) "0" 0 with
      | false => rfl
      | true =>
        exfalso
        unfold Builtin.Str.subAt at hs
        have e1 := eq_of_beq hs
        have e2 := congrArg Array.toList e1
        rw [Array.toList_extract] at e2
        have e3 : (Str.ofString "0").cps.toList = [48] := by decide +kernel
        have e4 : (Str.ofString "0").length = 1 := by decide +kernel
        rw [e3, e4, show (intS i).cps.toList = c :: r from ht] at e2
        simp at e2
        exact hc e2
    rw [this]
    rfl
end
theorem word_ascii {s : Str} (h : WordOk s) : Txt.isascii s = true := all_of fun c m => by
  have := h.2.2 c m
  exact decide_eq_true (by omega)
theorem word_ne {s : Str} (h : WordOk s) : TL.tl s ≠ [] := fun e => by
  have := h.1
  rw [e] at this
  exact absurd this (by decide)
theorem word_alpha {s : Str} (h : WordOk s) : Txt.isalpha s = true := by
  unfold Txt.isalpha
  rw [Bool.and_eq_true]
  exact ⟨pos_of_ne (word_ne h), all_of fun c m => (low_at (h.2.2 c m)).1⟩
theorem word_lower {s : Str} (h : WordOk s) : Txt.islower s = true := by
  unfold Txt.islower
  obtain ⟨c, r, e⟩ : ∃ c r, TL.tl s = c :: r := by
    cases e : TL.tl s with
    | nil => exact absurd e (word_ne h)
    | cons c r => exact ⟨c, r, rfl⟩
  have m : c ∈ TL.tl s := by rw [e]; exact List.mem_cons_self
  rw [any_of m (low_at (h.2.2 c m)).2.1, none_of fun c m => (low_at (h.2.2 c m)).2.2]
  rfl
theorem dot_tl : TL.tl "." = [46] := by decide +kernel
theorem blank_tl : TL.tl " " = [32] := by decide +kernel
theorem dot_small : (Str.ofString ".").cps.all (· < 256) = true := by decide +kernel
theorem blank_small : (Str.ofString " ").cps.all (· < 256) = true := by decide +kernel
theorem dot_free {i : Int} (h0 : 0 ≤ i) : 46 ∉ TL.tl (intS i) := by
  rw [tl_intS h0]
  exact TL.numL_free (.inl (by decide))
theorem split_nums {ns : List Int} (hne : ns ≠ []) (h : ∀ x ∈ ns, Num x) : Txt.split (noteS ns) "." = ns.map intS := by
  refine TL.split_join dot_tl dot_small (fun e => hne (List.map_eq_nil_iff.mp e)) fun p m => ?_
  obtain ⟨i, mi, rfl⟩ := List.mem_map.mp m
  exact dot_free (h i mi).1
/-- author and number, with a point -/
def signS (a : Act) : Str := intS a.who ++ "." ++ intS a.num
theorem sign_note (a : Act) : signS a = noteS [a.who, a.num] := by
  unfold signS noteS
  rw [TL.join_eq]
  rfl
theorem joinL_mem {S : List Nat} {c : Nat} : ∀ {l : List (List Nat)}, c ∈ TL.joinL S l → c ∈ S ∨ ∃ p ∈ l, c ∈ p
  | [], h => by cases h
  | [p], h => .inr ⟨p, List.mem_singleton.mpr rfl, h⟩
  | p :: q :: r, h => by
    have h : c ∈ p ++ (S ++ TL.joinL S (q :: r)) := h
    rcases List.mem_append.mp h with h | h
    · exact .inr ⟨p, List.mem_cons_self, h⟩
    · rcases List.mem_append.mp h with h | h
      · exact .inl h
      · rcases joinL_mem h with h | ⟨z, mz, h⟩
        · exact .inl h
        · exact .inr ⟨z, List.mem_cons_of_mem _ mz, h⟩
theorem blank_note {ns : List Int} (h : ∀ x ∈ ns, Num x) : 32 ∉ TL.tl (noteS ns) := fun m => by
  unfold noteS at m
  rw [TL.join_eq, TL.tl_join, dot_tl] at m
  rcases joinL_mem m with m | ⟨p, mp, m⟩
  · simp at m
  · rw [List.map_map] at mp
    obtain ⟨i, mi, rfl⟩ := List.mem_map.mp mp
    have m : 32 ∈ TL.tl (intS i) := m
    rw [tl_intS (h i mi).1] at m
    exact TL.numL_free (.inl (by decide)) m
theorem blank_word {s : Str} (h : WordOk s) : 32 ∉ TL.tl s := fun m => by
  have := h.2.2 32 m
  omega
theorem blank_kind {s : Str} (h : KindOk s) : 32 ∉ TL.tl s := by rcases h with rfl | rfl <;> decide +kernel
theorem blank_int {i : Int} (h0 : 0 ≤ i) : 32 ∉ TL.tl (intS i) := by
  rw [tl_intS h0]
  exact TL.numL_free (.inl (by decide))
theorem blank_strs {w : What} (hf : w.Fit) (hn : w.Num) : ∀ s ∈ w.strs, 32 ∉ TL.tl s := by
  have e1 : 32 ∉ TL.tl "give" := by decide +kernel
  have e2 : 32 ∉ TL.tl "take" := by decide +kernel
  have e3 : 32 ∉ TL.tl "use" := by decide +kernel
  intro s m
  cases w with
  | give p k i =>
    simp only [What.strs, List.mem_cons, List.not_mem_nil, or_false] at m
    rcases m with rfl | rfl | rfl | rfl
    · exact e1
    · exact blank_word hf.1
    · exact blank_kind hf.2
    · exact blank_int hn.1
  | take p k i =>
    simp only [What.strs, List.mem_cons, List.not_mem_nil, or_false] at m
    rcases m with rfl | rfl | rfl | rfl
    · exact e2
    · exact blank_word hf.1
    · exact blank_kind hf.2
    · exact blank_int hn.1
  | use p v =>
    simp only [What.strs, List.mem_cons, List.not_mem_nil, or_false] at m
    rcases m with rfl | rfl | rfl
    · exact e3
    · exact blank_word hf.1
    · exact blank_word hf.2
def Act.texts (a : Act) : List Str := [signS a, "seen", noteS a.note] ++ a.what.strs
theorem split_shown {a : Act} (h : a.Num) : Txt.split a.shown " " = a.texts := by
  rw [← shown_law a]
  refine TL.split_join blank_tl blank_small (by simp) fun p m => ?_
  have e : 32 ∉ TL.tl "seen" := by decide +kernel
  rcases List.mem_append.mp m with m | m
  · simp only [List.mem_cons, List.not_mem_nil, or_false] at m
    rcases m with rfl | rfl | rfl
    · have := blank_note (ns := [a.who, a.num]) (by
        intro x mx
        simp only [List.mem_cons, List.not_mem_nil, or_false] at mx
        rcases mx with rfl | rfl
        · exact h.who
        · exact h.num)
      rw [← sign_note] at this
      exact this
    · exact e
    · exact blank_note h.note
  · exact blank_strs h.fit h.what p m
theorem parts_len (x : Str) (cuts : List Nat) (k : Nat) : (Builtin.Str.partsBetween x cuts k).length = cuts.length + 1 := by
  unfold Builtin.Str.partsBetween
  simp
theorem count_split {x y : Str} {n : Nat} (h : (Txt.split x y).length = n + 2) : Txt.count x y = ((n + 1 : Nat) : Int) := by
  unfold Txt.split at h
  unfold Txt.count
  split at h
  · simp at h
  · split at h
    · simp at h
    · rw [parts_len] at h
      congr 1
      omega
theorem count_sign {a : Act} (h : a.Num) : Txt.count (signS a) "." = 1 := by
  have e := split_nums (ns := [a.who, a.num]) (by simp) (by
    intro x mx
    simp only [List.mem_cons, List.not_mem_nil, or_false] at mx
    rcases mx with rfl | rfl
    · exact h.who
    · exact h.num)
  rw [← sign_note] at e
  exact count_split (n := 0) (by rw [e]; rfl)
theorem int_back {i : Int} (h : Num i) : PySem.intText? (intS i) = some i := by
  obtain ⟨n, rfl⟩ := Int.eq_ofNat_of_zero_le h.1
  refine TL.int_num (Nat.le_trans (TL.numL_len (k := 9) (by decide) (by have := h.2; omega)) (by decide))
/-- a text that writes numbers with points between -/
def spNums (K : PySem.W.Frag) : Sp := fun vs H Q _ => ∃ ns : List Int, vs = [.str (noteS ns)] ∧ ns ≠ [] ∧ ns.length ≤ 6 ∧ (∀ x ∈ ns, Num x) ∧ ∀ (q : Addr) (H' : Hp), Same H H' → H q = none → H' q = some (.tup (ns.map V.int)) → Q (.ref q) H'
def spAre : Sp := fun vs H Q _ => ∃ ns : List Int, vs = [.str (noteS ns)] ∧ ns ≠ [] ∧ ns.length ≤ 6 ∧ (∀ x ∈ ns, Num x) ∧ ∀ H', Same H H' → Q (.bl true) H'
def spIsNum : Sp := fun vs H Q _ => ∃ i : Int, vs = [.str (intS i)] ∧ Num i ∧ ∀ H', Same H H' → Q (.bl true) H'
def spIsName : Sp := fun vs H Q _ => ∃ s : Str, vs = [.str s] ∧ WordOk s ∧ ∀ H', Same H H' → Q (.bl true) H'
def spHead (K : PySem.W.Frag) : Sp := fun vs H Q _ => ∃ (p : Addr) (a : Act), vs = [.ref p] ∧ H p = some (.lst ([signS a, "seen", noteS a.note].map V.str)) ∧ a.Num ∧ ∀ H', Same H H' → Q (.bl true) H'
def spIsWhat (K : PySem.W.Frag) : Sp := fun vs H Q _ => ∃ (p : Addr) (w : What), vs = [.ref p] ∧ H p = some (.lst (w.strs.map V.str)) ∧ w.Fit ∧ w.Num ∧ ∀ H', Same H H' → Q (.bl true) H'
def spWhatOf (K : PySem.W.Frag) : Sp := fun vs H Q _ => ∃ (p : Addr) (w : What), vs = [.ref p] ∧ H p = some (.lst (w.strs.map V.str)) ∧ w.Fit ∧ w.Num ∧ ∀ (q : Addr) (H' : Hp), Same H H' → H q = none → H' q = some (.tup w.vs) → Q (.ref q) H'
def spRead : Sp := fun vs H Q _ => ∃ a : Act, vs = [.str a.shown] ∧ a.Num ∧ ∀ (q : Addr) (H' : Hp), Same H H' → H q = none → ActAt H' q a → Q (.ref q) H'
end FR

namespace FR
open PySem PySem.Spec PyProof.Rows L2
theorem cut_drop (xs : List V) (k : Nat) : cutV xs (some (k : Int)) none = xs.drop k := by
  unfold cutV
  rw [HT.sIx_none, HT.sIx_nat]
  by_cases h : k ≤ xs.length
  · rw [Nat.min_eq_left h, List.take_of_length_le (by rw [List.length_drop]; exact Nat.le_refl _)]
  · rw [Nat.min_eq_right (by omega), List.drop_of_length_le (Nat.le_refl _), List.drop_of_length_le (by omega), List.take_nil]
abbrev sShow : Stmt := top 5
abbrev sRead : Stmt := top 7
abbrev sHead : Stmt := top 8
abbrev sIsWhat : Stmt := top 9
abbrev sIsName : Stmt := top 10
abbrev sIsNum : Stmt := top 11
abbrev sAre : Stmt := top 12
abbrev sNums : Stmt := top 13
abbrev sWhatOf : Stmt := top 14
/-- the kinds, a tuple of the module -/
structure Kinds (K : PySem.W.Frag) (mg : Str → Option Value) (kt : Addr) : Prop where
  m : mg "KINDS" = some (.ref kt)
  t : ∀ H, SqT K H kt [.str "use", .str "lead"]
theorem iteT' {c : Bool} {p q : Prop} (e : c = true) (h : p) : if c = true then p else q := by rw [e]; exact iteT h
theorem iteF' {c : Bool} {p q : Prop} (e : c = false) (h : q) : if c = true then p else q := by rw [e]; exact iteF h
section
variable {P : Program} {w : World} {K : PySem.W.Frag} {mg : Str → Option Value} {base : Heap}
abbrev nIsName : List Str := ["word"]
theorem scIsName : FnScope nIsName ["word"] (defScope sIsName) := ⟨rfl, rfl, rfl, by decide +kernel, rfl, by decide +kernel, by decide +kernel⟩
theorem ok_isname {f : Addr} {fd : FuncData} {k : Nat} (F : Fun K "_is_name" "_is_name" sIsName f fd) : FnOk P w K mg base CX0 (k + 1) f fd ["word"] spIsName := by
  refine F.ok scIsName (fun vs H Q E h => ?_) (fun cdv A outer s H vs Q E hr h => ?_)
  · obtain ⟨x, rfl, _⟩ := h
    rfl
  obtain ⟨x, rfl, hw, out⟩ := h
  refine ⟨_, (pss_one (ps_ret (pe_and (pe_m0 PySem.F.slot_str_isascii PySem.F.type_str_isascii mt_isascii (pv 0)) (pe_and (pe_m0 PySem.F.slot_str_isalpha PySem.F.type_str_isalpha mt_isalpha (pv 0)) (pe_one (pe_m0 PySem.F.slot_str_islower PySem.F.type_str_islower mt_islower (pv 0))))))), ?_⟩
  have e1 := word_ascii hw
  have e2 := word_alpha hw
  have e3 := word_lower hw
  refine ⟨_, rfl, ⟨_, rfl⟩, _, rfl, rfl, trivial, _, rfl, ?_⟩
  rw [e1]
  refine iteT ⟨_, rfl, ⟨_, rfl⟩, _, rfl, rfl, trivial, _, rfl, ?_⟩
  rw [e2]
  refine iteT ⟨_, rfl, ⟨_, rfl⟩, _, rfl, rfl, trivial, ?_⟩
  rw [e3]
  exact out _ (Same.refl _)
abbrev nIsNum : List Str := ["word"]
theorem scIsNum : FnScope nIsNum ["word"] (defScope sIsNum) := ⟨rfl, rfl, rfl, by decide +kernel, rfl, by decide +kernel, by decide +kernel⟩
theorem ok_isnum {f : Addr} {fd : FuncData} {k : Nat} (F : Fun K "_is_number" "_is_number" sIsNum f fd) (B : Blt2 mg) : FnOk P w K mg base CX0 (k + 1) f fd ["word"] spIsNum := by
  refine F.ok scIsNum (fun vs H Q E h => ?_) (fun cdv A outer s H vs Q E hr h => ?_)
  · obtain ⟨x, rfl, _⟩ := h
    rfl
  obtain ⟨i, rfl, hi, out⟩ := h
  refine ⟨_, (pss_cons (ps_if (pt_not (PW.pt (pw_and (pt_val (pe_m0 PySem.F.slot_str_isascii PySem.F.type_str_isascii mt_isascii (pv 0))) (pw_and (pt_val (pe_m0 PySem.F.slot_str_isdigit PySem.F.type_str_isdigit mt_isdigit (pv 0))) (pw_and1 (pt_cmpR op_le (pe_callB call_len (by rfl) B.len PySem.boot_len (pa_cons (pv 0) pa_nil)) pe_int (nomark _)))))))
      (pss_one (ps_ret pe_bl))
      pss_nil)
    (pss_one (ps_ret (pe_or (pe_cmpR op_eq (pv 0) pe_str (nomark _)) (pe_one (pe_not (pe_m1 PySem.F.slot_str_startswith PySem.F.type_str_startswith mt_startswith (pv 0) pe_str))))))), ?_⟩
  have e1 := num_ascii hi.1
  have e2 := num_digit hi.1
  have e3 := num_len hi
  have e4 := num_zero hi.1
  refine ⟨_, rfl, ⟨_, rfl⟩, _, rfl, rfl, trivial, _, rfl, ?_⟩
  rw [e1]
  refine iteT ⟨_, rfl, ⟨_, rfl⟩, _, rfl, rfl, trivial, _, rfl, ?_⟩
  rw [e2]
  refine iteT ⟨_, rfl, _, _, rfl, ⟨by have := sizeLine_eq; omega, rfl⟩, _, _, rfl, rfl, _, rfl, ?_⟩
  rw [show decide ((((intS i).length : Nat) : Int) ≤ 9) = true from decide_eq_true (by omega)]
  refine iteF ⟨_, rfl, rfl, _, rfl, ite2 (fun c => ?_) (fun c => ?_)⟩
  · exact out _ (Same.refl _)
  · refine ⟨_, rfl, ⟨_, rfl⟩, _, _, rfl, rfl, _, rfl, ?_⟩
    rw [Bool.eq_false_iff.mpr c, Bool.false_or] at e4
    rw [e4]
    exact out _ (Same.refl _)
abbrev nAre : List Str := ["word", "part"]
theorem scAre : FnScope nAre ["word"] (defScope sAre) := ⟨rfl, rfl, rfl, by decide +kernel, rfl, by decide +kernel, by decide +kernel⟩
theorem ok_are {f fN : Addr} {fd fdN : FuncData} {k : Nat} (F : Fun K "_are_numbers" "_are_numbers" sAre f fd) (N : Cal P w K mg base k "_is_number" ["word"] spIsNum fN fdN) (B : Blt2 mg) : FnOk P w K mg base CX0 (k + 1) f fd ["word"] spAre := by
  refine F.ok scAre (fun vs H Q E h => ?_) (fun cdv A outer s H vs Q E hr h => ?_)
  · obtain ⟨x, rfl, _⟩ := h
    rfl
  obtain ⟨ns, rfl, hne, hl6, hi, out⟩ := h
  refine ⟨_, (pss_one (ps_ret (pe_callB (cr_all rfl) (by rfl) B.all (by decide +kernel) (pa_cons (pe_lc (own := [("part", 1)]) (g := (gName 1)) (tt := tYes) rfl scAre.nd (pi_list (pe_split (pv 0) pe_str))
        (blkOk_by (N := nAre) (sc := defScope sAre) (by decide +kernel)) (fun _ _ _ _ _ => (pg_name (i := 1) scAre.nd rfl (.inl rfl))) (fun _ _ _ _ _ => pts_nil)
        (fun _ _ _ _ _ => (pe_call N.ok hr (by rfl) N.m N.kp N.b .nil pass0 (pa_cons (pv 1) pa_nil)))) pa_nil)))), ?_⟩
  have hz := sizeLine_eq
  have hl := noteS_len hi hl6
  have e0 : (Str.length "." == 0) = false := by decide +kernel
  refine ⟨_, rfl, ⟨_, rfl⟩, _, _, rfl, rfl, e0, by omega, fun p np => ?_⟩
  rw [split_nums hne hi]
  refine ⟨p, rfl, ⟨_, sqL upd_same⟩, fun D nD => ?_⟩
  have hp1 : upd H p (.lst ((ns.map intS).map V.str)) p = _ := upd_same
  have s1 : Same H (upd H p (.lst ((ns.map intS).map V.str))) := same_new np
  generalize upd H p (.lst ((ns.map intS).map V.str)) = H1 at hp1 s1 nD
  refine lc_list (K := K) (a := p) (xs := (ns.map intS).map V.str) (fun i H' => Same H1 H' ∧ H' D = some (.lst ((List.replicate i true).map V.bl))) ⟨same_new nD, upd_same⟩ (fun i H' _ h => sqL (h.1 _ _ hp1)) ?_ ?_
  · rintro i y H2 hi2 ⟨s2, hD⟩
    have hi6 : i < 6 := by
      have := (List.getElem?_eq_some_iff.mp hi2).1
      rw [List.length_map, List.length_map] at this
      omega
    rw [List.map_map, List.getElem?_map] at hi2
    obtain ⟨z, hz2, rfl⟩ := Option.map_eq_some_iff.mp hi2
    refine ⟨rfl, _, rfl, z, rfl, hi z (List.mem_of_getElem? hz2), fun H3 s3 => ⟨_, s3 _ _ hD, ?_, ?_, ?_⟩⟩
    · rw [List.length_map, List.length_replicate]
      exact small1000 (by omega)
    · exact fun b o e => (upd_ne (ne_of_none e nD)).trans ((s2.trans s3) _ _ e)
    · rw [upd_same, List.replicate_succ', List.map_append]
      rfl
  rintro H2 ⟨s2, hD⟩
  refine ⟨D, _, rfl, sqL hD, ?_⟩
  have e : (List.replicate ((ns.map intS).map V.str).length true).all id = true := by
    rw [List.all_eq_true]
    intro x mx
    rw [(List.mem_replicate.mp mx).2]
    rfl
  rw [e]
  exact out _ (s1.trans s2)
abbrev nNums : List Str := ["word", "part"]
theorem scNums : FnScope nNums ["word"] (defScope sNums) := ⟨rfl, rfl, rfl, by decide +kernel, rfl, by decide +kernel, by decide +kernel⟩
theorem ok_nums {f : Addr} {fd : FuncData} {k : Nat} (F : Fun K "_numbers" "_numbers" sNums f fd) (B : Blt2 mg) : FnOk P w K mg base CX0 (k + 1) f fd ["word"] (spNums K) := by
  refine F.ok scNums (fun vs H Q E h => ?_) (fun cdv A outer s H vs Q E hr h => ?_)
  · obtain ⟨x, rfl, _⟩ := h
    rfl
  obtain ⟨ns, rfl, hne, hl6, hi, out⟩ := h
  refine ⟨_, (pss_one (ps_ret (pe_callTy call_tuple_of (by rfl) B.tuple (by decide +kernel) (pa_cons (pe_lc (own := [("part", 1)]) (g := (gName 1)) (tt := tYes) rfl scNums.nd (pi_list (pe_split (pv 0) pe_str))
        (blkOk_by (N := nNums) (sc := defScope sNums) (by decide +kernel)) (fun _ _ _ _ _ => (pg_name (i := 1) scNums.nd rfl (.inl rfl))) (fun _ _ _ _ _ => pts_nil)
        (fun _ _ _ _ _ => (pe_callTy call_int_str (by rfl) B.int (by decide +kernel) (pa_cons (pv 1) pa_nil)))) pa_nil)))), ?_⟩
  have hz := sizeLine_eq
  have hl := noteS_len hi hl6
  have e0 : (Str.length "." == 0) = false := by decide +kernel
  refine ⟨_, rfl, ⟨_, rfl⟩, _, _, rfl, rfl, e0, by omega, fun p np => ?_⟩
  rw [split_nums hne hi]
  refine ⟨p, rfl, ⟨_, sqL upd_same⟩, fun D nD => ?_⟩
  have hp1 : upd H p (.lst ((ns.map intS).map V.str)) p = _ := upd_same
  have s1 : Same H (upd H p (.lst ((ns.map intS).map V.str))) := same_new np
  generalize upd H p (.lst ((ns.map intS).map V.str)) = H1 at hp1 s1 nD
  refine lc_list (K := K) (a := p) (xs := (ns.map intS).map V.str) (fun i H' => Same H1 H' ∧ H' D = some (.lst ((ns.take i).map V.int))) ⟨same_new nD, upd_same⟩ (fun i H' _ h => sqL (h.1 _ _ hp1)) ?_ ?_
  · rintro i y H2 hi2 ⟨s2, hD⟩
    have hi6 : i < 6 := by
      have := (List.getElem?_eq_some_iff.mp hi2).1
      rw [List.length_map, List.length_map] at this
      omega
    rw [List.map_map, List.getElem?_map] at hi2
    obtain ⟨z, hz2, rfl⟩ := Option.map_eq_some_iff.mp hi2
    have nz := hi z (List.mem_of_getElem? hz2)
    have lz := num_len nz
    refine ⟨rfl, _, rfl, _, z, rfl, int_back nz, by omega, _, hD, ?_, ?_, ?_⟩
    · rw [List.length_map, List.length_take]
      exact small1000 (by omega)
    · exact fun b o e => (upd_ne (ne_of_none e nD)).trans (s2 _ _ e)
    · rw [upd_same, List.take_add_one, hz2, Option.toList_some, List.map_append]
      rfl
  rintro H2 ⟨s2, hD⟩
  rw [List.length_map, List.length_map, List.take_length] at hD
  refine ⟨D, _, rfl, .inl ⟨sqL hD, fun q nq => ?_⟩⟩
  exact out q _ ((s1.trans s2).trans (same_new nq)) ((s1.trans s2).free nq) upd_same
abbrev nWhatOf : List Str := ["words", "word", "power", "kind", "member"]
theorem scWhatOf : FnScope nWhatOf ["words"] (defScope sWhatOf) := ⟨rfl, rfl, rfl, by decide +kernel, rfl, by decide +kernel, by decide +kernel⟩
theorem ok_whatof {f : Addr} {fd : FuncData} {k : Nat} (F : Fun K "_what" "_what" sWhatOf f fd) (B : Blt2 mg) : FnOk P w K mg base CX0 (k + 1) f fd ["words"] (spWhatOf K) := by
  refine F.ok scWhatOf (fun vs H Q E h => ?_) (fun cdv A outer s H vs Q E hr h => ?_)
  · obtain ⟨x, _, rfl, _⟩ := h
    rfl
  obtain ⟨p, wt, rfl, hp, fit, num, out⟩ := h
  refine ⟨_, (pss_cons (ps_if (pt_cmpR op_eq (pe_ix (ix_list : IxR _ (rIxL K)) (pv 0) pe_int (fun _ _ => rfl)) pe_str (nomark _))
      (pss_one (ps_ret (pe_callTy call_tuple_of (by rfl) B.tuple (by decide +kernel) (pa_cons (pv 0) pa_nil))))
      pss_nil)
    (pss_cons (ps_asg (pv 0) (pg_unl rfl (pgs_cons (pg_name (i := 1) scWhatOf.nd rfl (.inl rfl)) (pgs_cons (pg_name (i := 2) scWhatOf.nd rfl (.inl rfl)) (pgs_cons (pg_name (i := 3) scWhatOf.nd rfl (.inl rfl)) (pgs_cons (pg_name (i := 4) scWhatOf.nd rfl (.inl rfl)) pgs_nil))))))
    (pss_one (ps_ret (pe_tup (pa_cons (pv 1) (pa_cons (pv 2) (pa_cons (pv 3) (pa_cons (pe_callTy call_int_str (by rfl) B.int (by decide +kernel) (pa_cons (pv 4) pa_nil)) pa_nil))))))))), ?_⟩
  have e1 : (V.str "give" == V.str "use") = false := by decide +kernel
  cases wt with
  | use pw v =>
    refine ⟨_, rfl, p, _, _, _, rfl, rfl, sqL hp, atI_nat (j := 0) rfl, rfl, _, rfl, iteT' (decide_eq_true rfl) ⟨_, rfl, p, _, rfl, .inl ⟨sqL hp, fun q nq => out q _ (same_new nq) nq upd_same⟩⟩⟩
  | give pw k m =>
    refine ⟨_, rfl, p, _, _, _, rfl, rfl, sqL hp, atI_nat (j := 0) rfl, rfl, _, rfl, iteF' (by decide +kernel) ?_⟩
    have lm := num_len num
    refine ⟨_, rfl, p, _, rfl, sqL hp, rfl, _, _, rfl, _, _, rfl, _, _, rfl, _, _, rfl, rfl, _, rfl, _, rfl, _, rfl, _, rfl, _, m, rfl, int_back num, by omega, (by show 4 ≤ sizeLine; decide), fun q nq => ?_⟩
    exact out q _ (same_new nq) nq upd_same
  | take pw k m =>
    refine ⟨_, rfl, p, _, _, _, rfl, rfl, sqL hp, atI_nat (j := 0) rfl, rfl, _, rfl, iteF' (by decide +kernel) ?_⟩
    have lm := num_len num
    refine ⟨_, rfl, p, _, rfl, sqL hp, rfl, _, _, rfl, _, _, rfl, _, _, rfl, _, _, rfl, rfl, _, rfl, _, rfl, _, rfl, _, rfl, _, m, rfl, int_back num, by omega, (by show 4 ≤ sizeLine; decide), fun q nq => ?_⟩
    exact out q _ (same_new nq) nq upd_same
abbrev nHead : List Str := ["words"]
theorem scHead : FnScope nHead ["words"] (defScope sHead) := ⟨rfl, rfl, rfl, by decide +kernel, rfl, by decide +kernel, by decide +kernel⟩
theorem ok_head {f fA : Addr} {fd fdA : FuncData} {k : Nat} (F : Fun K "_is_head" "_is_head" sHead f fd) (A : Cal P w K mg base k "_are_numbers" ["word"] spAre fA fdA) (B : Blt2 mg) : FnOk P w K mg base CX0 (k + 1) f fd ["words"] (spHead K) := by
  refine F.ok scHead (fun vs H Q E h => ?_) (fun cdv A' outer s H vs Q E hr h => ?_)
  · obtain ⟨x, _, rfl, _⟩ := h
    rfl
  obtain ⟨p, a, rfl, hp, hn, out⟩ := h
  refine ⟨_, (pss_cons (ps_if (PW.pt (pw_or (pt_cmpR op_ne (pe_callB call_len_seq (by rfl) B.len PySem.boot_len (pa_cons (pv 0) pa_nil)) pe_int (nomark _)) (pw_or1 (pt_cmpR op_ne (pe_ix (ix_list : IxR _ (rIxL K)) (pv 0) pe_int (fun _ _ => rfl)) pe_str (nomark _)))))
      (pss_one (ps_ret pe_bl))
      pss_nil)
    (pss_one (ps_ret (pe_and (pe_cmpR op_eq (pe_m1 PySem.F.slot_str_count PySem.F.type_str_count mt_count (pe_ix (ix_list : IxR _ (rIxL K)) (pv 0) pe_int (fun _ _ => rfl)) pe_str) pe_int (nomark _)) (pe_and (pe_call A.ok hr (by rfl) A.m A.kp A.b .nil pass0 (pa_cons (pe_ix (ix_list : IxR _ (rIxL K)) (pv 0) pe_int (fun _ _ => rfl)) pa_nil)) (pe_one (pe_call A.ok hr (by rfl) A.m A.kp A.b .nil pass0 (pa_cons (pe_ix (ix_list : IxR _ (rIxL K)) (pv 0) pe_int (fun _ _ => rfl)) pa_nil)))))))), ?_⟩
  have two : ∀ x ∈ [a.who, a.num], FR.Num x := by
    intro x mx
    simp only [List.mem_cons, List.not_mem_nil, or_false] at mx
    rcases mx with rfl | rfl
    · exact hn.who
    · exact hn.num
  refine ⟨_, rfl, p, _, rfl, .inl (sqL hp), rfl, _, rfl, iteF' (by rfl) ⟨_, rfl, p, _, _, _, rfl, rfl, sqL hp, atI_nat (j := 1) rfl, rfl, _, rfl, iteF' (by decide +kernel) ?_⟩⟩
  refine ⟨_, rfl, p, _, _, _, rfl, rfl, sqL hp, atI_nat (j := 0) rfl, ⟨_, rfl⟩, _, _, rfl, rfl, rfl, _, rfl, ?_⟩
  rw [count_sign hn]
  refine iteT ⟨_, rfl, p, _, _, _, rfl, rfl, sqL hp, atI_nat (j := 0) rfl, [a.who, a.num], ?_, by simp, by simp, two, fun H1 s1 => ⟨_, rfl, iteT ⟨_, rfl, p, _, _, _, rfl, rfl, sqL (s1 _ _ hp), atI_nat (j := 2) rfl, a.note, rfl, hn.pos, hn.len, hn.note, fun H2 s2 => out _ (s1.trans s2)⟩⟩⟩
  rw [← sign_note]
  rfl
abbrev nIsWhat : List Str := ["words"]
theorem scIsWhat : FnScope nIsWhat ["words"] (defScope sIsWhat) := ⟨rfl, rfl, rfl, by decide +kernel, rfl, by decide +kernel, by decide +kernel⟩
theorem ok_iswhat {f fN fM : Addr} {fd fdN fdM : FuncData} {k : Nat} {kt : Addr} (F : Fun K "_is_what" "_is_what" sIsWhat f fd) (N : Cal P w K mg base k "_is_number" ["word"] spIsNum fN fdN) (M : Cal P w K mg base k "_is_name" ["word"] spIsName fM fdM) (KD : Kinds K mg kt) (B : Blt2 mg) : FnOk P w K mg base CX0 (k + 1) f fd ["words"] (spIsWhat K) := by
  refine F.ok scIsWhat (fun vs H Q E h => ?_) (fun cdv A outer s H vs Q E hr h => ?_)
  · obtain ⟨x, _, rfl, _⟩ := h
    rfl
  obtain ⟨p, wt, rfl, hp, fit, num, out⟩ := h
  refine ⟨_, (pss_cons (ps_if (pt_cmpR op_eq (pe_callB call_len_seq (by rfl) B.len PySem.boot_len (pa_cons (pv 0) pa_nil)) pe_int (nomark _))
      (pss_one (ps_ret (pe_and (pe_cmpR op_eq (pe_ix (ix_list : IxR _ (rIxL K)) (pv 0) pe_int (fun _ _ => rfl)) pe_str (nomark _)) (pe_and (pe_call M.ok hr (by rfl) M.m M.kp M.b .nil pass0 (pa_cons (pe_ix (ix_list : IxR _ (rIxL K)) (pv 0) pe_int (fun _ _ => rfl)) pa_nil)) (pe_one (pe_call M.ok hr (by rfl) M.m M.kp M.b .nil pass0 (pa_cons (pe_ix (ix_list : IxR _ (rIxL K)) (pv 0) pe_int (fun _ _ => rfl)) pa_nil)))))))
      pss_nil)
    (pss_cons (ps_if (PW.pt (pw_or (pt_cmpR op_ne (pe_callB call_len_seq (by rfl) B.len PySem.boot_len (pa_cons (pv 0) pa_nil)) pe_int (nomark _)) (pw_or1 (pt_cmpR (op_notIn_seq : OpR _ _ (rIn K true)) (pe_ix (ix_list : IxR _ (rIxL K)) (pv 0) pe_int (fun _ _ => rfl)) (pe_tup (pa_cons pe_str (pa_cons pe_str pa_nil))) (by rfl)))))
      (pss_one (ps_ret pe_bl))
      pss_nil)
    (pss_one (ps_ret (pe_and (pe_call M.ok hr (by rfl) M.m M.kp M.b .nil pass0 (pa_cons (pe_ix (ix_list : IxR _ (rIxL K)) (pv 0) pe_int (fun _ _ => rfl)) pa_nil)) (pe_and (pe_cmpR (op_in_seq : OpR _ _ (rIn K false)) (pe_ix (ix_list : IxR _ (rIxL K)) (pv 0) pe_int (fun _ _ => rfl)) (pe_glob (v := .ref kt) (by rfl) KD.m rfl) (by rfl)) (pe_one (pe_call N.ok hr (by rfl) N.m N.kp N.b .nil pass0 (pa_cons (pe_ix (ix_list : IxR _ (rIxL K)) (pv 0) pe_int (fun _ _ => rfl)) pa_nil))))))))), ?_⟩
  cases wt with
  | use pw v =>
    refine ⟨_, rfl, p, _, rfl, .inl (sqL hp), rfl, _, rfl, iteT' (by rfl) ⟨_, rfl, p, _, _, _, rfl, rfl, sqL hp, atI_nat (j := 0) rfl, rfl, _, rfl, iteT' (by decide +kernel) ?_⟩⟩
    refine ⟨_, rfl, p, _, _, _, rfl, rfl, sqL hp, atI_nat (j := 1) rfl, pw, rfl, fit.1, fun H1 s1 => ⟨_, rfl, iteT ⟨_, rfl, p, _, _, _, rfl, rfl, sqL (s1 _ _ hp), atI_nat (j := 2) rfl, v, rfl, fit.2, fun H2 s2 => out _ (s1.trans s2)⟩⟩⟩
  | give pw kd m =>
    refine ⟨_, rfl, p, _, rfl, .inl (sqL hp), rfl, _, rfl, iteF' (by rfl) ⟨_, rfl, p, _, rfl, .inl (sqL hp), rfl, _, rfl, iteF' (by rfl) ?_⟩⟩
    refine ⟨_, rfl, p, _, _, _, rfl, rfl, sqL hp, atI_nat (j := 0) rfl, (by show 2 ≤ sizeLine; decide), fun q nq => ⟨q, _, rfl, .inr (sqT upd_same), rfl, rfl, _, rfl, iteF' (by decide +kernel) ?_⟩⟩
    have s1 : Same H (upd H q (.tup [.str "give", .str "take"])) := same_new nq
    refine ⟨_, rfl, p, _, _, _, rfl, rfl, sqL (s1 _ _ hp), atI_nat (j := 1) rfl, pw, rfl, fit.1, fun H1 s2 => ⟨_, rfl, iteT ⟨_, rfl, p, _, _, _, rfl, rfl, sqL ((s1.trans s2) _ _ hp), atI_nat (j := 2) rfl, kt, _, rfl, .inr (KD.t _), rfl, rfl, _, rfl, iteT' ?_ ?_⟩⟩⟩
    · rcases fit.2 with rfl | rfl <;> decide +kernel
    · refine ⟨_, rfl, p, _, _, _, rfl, rfl, sqL ((s1.trans s2) _ _ hp), atI_nat (j := 3) rfl, m, rfl, num, fun H3 s3 => out _ ((s1.trans s2).trans s3)⟩
  | take pw kd m =>
    refine ⟨_, rfl, p, _, rfl, .inl (sqL hp), rfl, _, rfl, iteF' (by rfl) ⟨_, rfl, p, _, rfl, .inl (sqL hp), rfl, _, rfl, iteF' (by rfl) ?_⟩⟩
    refine ⟨_, rfl, p, _, _, _, rfl, rfl, sqL hp, atI_nat (j := 0) rfl, (by show 2 ≤ sizeLine; decide), fun q nq => ⟨q, _, rfl, .inr (sqT upd_same), rfl, rfl, _, rfl, iteF' (by decide +kernel) ?_⟩⟩
    have s1 : Same H (upd H q (.tup [.str "give", .str "take"])) := same_new nq
    refine ⟨_, rfl, p, _, _, _, rfl, rfl, sqL (s1 _ _ hp), atI_nat (j := 1) rfl, pw, rfl, fit.1, fun H1 s2 => ⟨_, rfl, iteT ⟨_, rfl, p, _, _, _, rfl, rfl, sqL ((s1.trans s2) _ _ hp), atI_nat (j := 2) rfl, kt, _, rfl, .inr (KD.t _), rfl, rfl, _, rfl, iteT' ?_ ?_⟩⟩⟩
    · rcases fit.2 with rfl | rfl <;> decide +kernel
    · refine ⟨_, rfl, p, _, _, _, rfl, rfl, sqL ((s1.trans s2) _ _ hp), atI_nat (j := 3) rfl, m, rfl, num, fun H3 s3 => out _ ((s1.trans s2).trans s3)⟩
abbrev nRead : List Str := ["text", "words", "author", "number"]
theorem scRead : FnScope nRead ["text"] (defScope sRead) := ⟨rfl, rfl, rfl, by decide +kernel, rfl, by decide +kernel, by decide +kernel⟩
theorem ok_read {f fH fI fN fO : Addr} {fd fdH fdI fdN fdO : FuncData} {k : Nat} (F : Fun K "read_deed" "read_deed" sRead f fd) (Hd : Cal P w K mg base k "_is_head" ["words"] (spHead K) fH fdH) (I : Cal P w K mg base k "_is_what" ["words"] (spIsWhat K) fI fdI)
    (N : Cal P w K mg base k "_numbers" ["word"] (spNums K) fN fdN) (O : Cal P w K mg base k "_what" ["words"] (spWhatOf K) fO fdO) : FnOk P w K mg base CX0 (k + 1) f fd ["text"] spRead := by
  refine F.ok scRead (fun vs H Q E h => ?_) (fun cdv A outer s H vs Q E hr h => ?_)
  · obtain ⟨x, rfl, _⟩ := h
    rfl
  obtain ⟨a, rfl, hn, out⟩ := h
  refine ⟨_, (pss_cons (ps_set (i := 1) scRead.nd rfl (.inl rfl) (pe_split (pv 0) pe_str))
    (pss_cons (ps_if (pt_not (PW.pt (pw_and (pt_val (pe_call Hd.ok hr (by rfl) Hd.m Hd.kp Hd.b .nil pass0 (pa_cons (pe_slice (sl_list : SlR _ (rSlL K)) (pv 1) po_none (po_some pe_int)) pa_nil))) (pw_and1 (pt_val (pe_call I.ok hr (by rfl) I.m I.kp I.b .nil pass0 (pa_cons (pe_slice (sl_list : SlR _ (rSlL K)) (pv 1) (po_some pe_int) po_none) pa_nil)))))))
      (pss_one ps_never)
      pss_nil)
    (pss_cons (ps_asg (pe_call N.ok hr (by rfl) N.m N.kp N.b .nil pass0 (pa_cons (pe_ix (ix_list : IxR _ (rIxL K)) (pv 1) pe_int (fun _ _ => rfl)) pa_nil)) (pg_tup rfl (pgs_cons (pg_name (i := 2) scRead.nd rfl (.inl rfl)) (pgs_cons (pg_name (i := 3) scRead.nd rfl (.inl rfl)) pgs_nil))))
    (pss_one (ps_ret (pe_tup (pa_cons (pv 2) (pa_cons (pv 3) (pa_cons (pe_call N.ok hr (by rfl) N.m N.kp N.b .nil pass0 (pa_cons (pe_ix (ix_list : IxR _ (rIxL K)) (pv 1) pe_int (fun _ _ => rfl)) pa_nil)) (pa_cons (pe_call O.ok hr (by rfl) O.m O.kp O.b .nil pass0 (pa_cons (pe_slice (sl_list : SlR _ (rSlL K)) (pv 1) (po_some pe_int) po_none) pa_nil)) pa_nil)))))))))), ?_⟩
  have hz := sizeLine_eq
  have hl := shown_len hn
  have e0 : (Str.length " " == 0) = false := by decide +kernel
  refine ⟨_, rfl, ⟨_, rfl⟩, _, _, rfl, rfl, e0, by omega, fun p np => ?_⟩
  rw [split_shown hn]
  have hp1 : upd H p (.lst (a.texts.map V.str)) p = _ := upd_same
  have s1 : Same H (upd H p (.lst (a.texts.map V.str))) := same_new np
  generalize upd H p (.lst (a.texts.map V.str)) = H1 at hp1 s1
  have t3 : (a.texts.map V.str).take 3 = [signS a, "seen", noteS a.note].map V.str := rfl
  have d3 : (a.texts.map V.str).drop 3 = a.what.strs.map V.str := rfl
  have two : ∀ x ∈ [a.who, a.num], FR.Num x := by
    intro x mx
    simp only [List.mem_cons, List.not_mem_nil, or_false] at mx
    rcases mx with rfl | rfl
    · exact hn.who
    · exact hn.num
  refine ⟨_, rfl, 3, rfl, p, _, rfl, sqL hp1, fun l1 nl1 => ?_⟩
  rw [show (3 : Int) = ((3 : Nat) : Int) from rfl, cut_take, t3]
  refine ⟨l1, a, rfl, upd_same, hn, fun H2 s2 => ⟨true, rfl, iteT ?_⟩⟩
  have s12 := (same_new nl1).trans s2
  have hp2 := s12 _ _ hp1
  refine ⟨_, rfl, 3, rfl, p, _, rfl, sqL hp2, fun l2 nl2 => ?_⟩
  rw [show (3 : Int) = ((3 : Nat) : Int) from rfl, cut_drop, d3]
  refine ⟨l2, a.what, rfl, upd_same, hn.fit, hn.what, fun H3 s3 => ⟨true, rfl, iteF ?_⟩⟩
  have s13 := (s12.trans (same_new nl2)).trans s3
  have hp3 := s13 _ _ hp1
  refine ⟨_, rfl, p, _, _, _, rfl, rfl, sqL hp3, atI_nat (j := 0) rfl, [a.who, a.num], ?_, by simp, by simp, two, fun q1 H4 s4 nq1 hq1 => ?_⟩
  · rw [← sign_note]
    rfl
  refine ⟨q1, _, rfl, sqT hq1, rfl, _, _, rfl, _, _, rfl, rfl, ?_⟩
  have s14 := s13.trans s4
  refine ⟨_, rfl, _, rfl, _, rfl, p, _, _, _, rfl, rfl, sqL (s14 _ _ hp1), atI_nat (j := 2) rfl, a.note, rfl, hn.pos, hn.len, hn.note, fun q2 H5 s5 nq2 hq2 => ?_⟩
  have s15 := s14.trans s5
  refine ⟨_, rfl, 3, rfl, p, _, rfl, sqL (s15 _ _ hp1), fun l3 nl3 => ?_⟩
  rw [show (3 : Int) = ((3 : Nat) : Int) from rfl, cut_drop, d3]
  refine ⟨l3, a.what, rfl, upd_same, hn.fit, hn.what, fun q3 H6 s6 nq3 hq3 => ?_⟩
  have s56 := (same_new nl3).trans s6
  refine ⟨(by show 4 ≤ sizeLine; decide), fun r nr => ?_⟩
  have sAll := (s1.trans s15).trans s56
  exact out r _ (sAll.trans (same_new nr)) (sAll.free nr) ⟨q2, q3, upd_same, upd_at (s56 _ _ hq2) nr, upd_at hq3 nr⟩
end
end FR


namespace FR
open PySem PySem.Spec PyProof.Rows L2

abbrev sShown : Stmt := top 23
section
variable {P : Program} {w : World} {K : PySem.W.Frag} {mg : Str → Option Value} {base : Heap}
abbrev nShow : List Str := ["deed", "author", "number", "seen", "what", "note", "words", "many", "part"]
theorem scShow : FnScope nShow ["deed"] (defScope sShow) := ⟨rfl, rfl, rfl, by decide +kernel, rfl, by decide +kernel, by decide +kernel⟩
theorem ok_show {f : Addr} {fd : FuncData} {k : Nat} (F : Fun K "show_deed" "show_deed" sShow f fd) (B : Blt mg) : FnOk P w K mg base CX0 (k + 1) f fd ["deed"] spShown := by
  refine F.ok scShow (fun vs H Q E h => ?_) (fun cdv A outer s H vs Q E hr h => ?_)
  · obtain ⟨p, a, rfl, _⟩ := h
    rfl
  obtain ⟨p, a, rfl, ⟨n, q, h1, h2, h3⟩, hn, out⟩ := h
  refine ⟨_, (pss_cons (ps_asg (pv 0) (pg_tup rfl (pgs_cons (pg_name (i := 1) scShow.nd rfl (.inl rfl)) (pgs_cons (pg_name (i := 2) scShow.nd rfl (.inl rfl)) (pgs_cons (pg_name (i := 3) scShow.nd rfl (.inl rfl)) (pgs_cons (pg_name (i := 4) scShow.nd rfl (.inl rfl)) pgs_nil))))))
    (pss_cons (ps_set (i := 5) scShow.nd rfl (.inl rfl) (pe_join pe_str (pe_lc (own := [("many", 7)]) (g := (gName 7)) (tt := tYes) rfl scShow.nd (pi_tup (pv 3))
        (blkOk_by (N := nShow) (sc := defScope sShow) (by decide +kernel)) (fun _ _ _ _ _ => (pg_name (i := 7) scShow.nd rfl (.inl rfl))) (fun _ _ _ _ _ => pts_nil)
        (fun _ _ _ _ _ => (pe_callTy call_strOf (by rfl) B.str (by decide +kernel) (pa_cons (pv 7) pa_nil))))))
    (pss_cons (ps_set (i := 6) scShow.nd rfl (.inl rfl) (pe_join pe_str (pe_lc (own := [("part", 8)]) (g := (gName 8)) (tt := tYes) rfl scShow.nd (pi_tup (pv 4))
        (blkOk_by (N := nShow) (sc := defScope sShow) (by decide +kernel)) (fun _ _ _ _ _ => (pg_name (i := 8) scShow.nd rfl (.inl rfl))) (fun _ _ _ _ _ => pts_nil)
        (fun _ _ _ _ _ => (pe_callTy call_strOf (by rfl) B.str (by decide +kernel) (pa_cons (pv 8) pa_nil))))))
    (pss_one (ps_ret (pe_joined (.cons (pe_fmt (pv 1)) (.cons pe_str (.cons (pe_fmt (pv 2)) (.cons pe_str (.cons (pe_fmt (pv 5)) (.cons pe_str (.cons (pe_fmt (pv 6)) .nil))))))))))))), ?_⟩
  refine ⟨_, rfl, p, _, rfl, sqT h1, rfl, _, _, rfl, _, _, rfl, _, _, rfl, _, _, rfl, rfl, ?_⟩
  -- the note
  refine ⟨⟨_, rfl⟩, _, rfl, n, rfl, ⟨_, sqT h2⟩, fun D nD => ?_⟩
  refine lc_tup (xs := a.note.map V.int) (fun i H' => Same H H' ∧ H' D = some (.lst ((a.note.take i).map fun x => V.str (intS x)))) ⟨same_new nD, upd_same⟩ (fun i H' _ h => sqT (h.1 _ _ h2)) ?_ ?_
  · rintro i y H' hi ⟨s1, hD⟩
    obtain ⟨z, hz, rfl⟩ := map_int_at hi
    have zn := hn.note z (List.mem_of_getElem? hz)
    have hi6 : i < 6 := Nat.lt_of_lt_of_le (List.getElem?_eq_some_iff.mp hz).1 hn.len
    refine ⟨rfl, _, rfl, .inl ⟨z, rfl, intOk_of zn.1 zn.2, _, hD, ?_, ?_, ?_⟩⟩
    · rw [List.length_map, List.length_take]
      exact small1000 (by omega)
    · exact fun b o e => (upd_ne (ne_of_none e nD)).trans (s1 _ _ e)
    · rw [upd_same, List.take_add_one, hz, Option.toList_some, List.map_append]
      rfl
  rintro H1 ⟨s1, hD⟩
  rw [List.length_map, List.take_length] at hD
  refine ⟨_, D, a.note.map intS, rfl, rfl, .inl (sqL (by rw [hD, List.map_map]; rfl)), Nat.le_trans (note_sum hn.note hn.len) (by decide), ?_⟩
  -- the words
  refine ⟨⟨_, rfl⟩, _, rfl, q, rfl, ⟨_, sqT (s1 _ _ h3)⟩, fun D2 nD2 => ?_⟩
  have nD2' : H D2 = none := s1.free nD2
  refine lc_tup (xs := a.what.vs) (fun i H' => Same H H' ∧ H' D2 = some (.lst ((a.what.vs.take i).map fun x => V.str (strOf x)))) ⟨s1.trans (same_new nD2), upd_same⟩ (fun i H' _ h => sqT (h.1 _ _ h3)) ?_ ?_
  · rintro i y H' hi ⟨s2, hD2⟩
    have hi4 : i < 4 := Nat.lt_of_lt_of_le (List.getElem?_eq_some_iff.mp hi).1 (by cases a.what <;> simp [What.vs])
    have fin : ∀ t : Str, strOf y = t → ∃ acc, H' D2 = some (.lst acc) ∧ acc.length < sizeLine ∧ Same H (upd H' D2 (.lst (acc ++ [V.str t]))) ∧ upd H' D2 (.lst (acc ++ [V.str t])) D2 = some (.lst ((a.what.vs.take (i + 1)).map fun x => V.str (strOf x))) := fun t e => by
      refine ⟨_, hD2, ?_, fun b o e => (upd_ne (ne_of_none e nD2')).trans (s2 _ _ e), ?_⟩
      · rw [List.length_map, List.length_take]
        exact small1000 (by omega)
      · rw [upd_same, List.take_add_one, hi, Option.toList_some, List.map_append, ← e]
        rfl
    refine ⟨rfl, _, rfl, ?_⟩
    rcases part_ok hn.what y (List.mem_of_getElem? hi) with ⟨z, rfl, hz⟩ | ⟨z, rfl⟩
    · exact .inl ⟨z, rfl, hz, fin _ rfl⟩
    · exact .inr ⟨z, rfl, fin _ rfl⟩
  rintro H2 ⟨s2, hD2⟩
  rw [List.take_length, parts_str] at hD2
  refine ⟨_, D2, a.what.strs, rfl, rfl, .inl (sqL hD2), Nat.le_trans (strs_sum hn.fit hn.what) (by decide), ?_⟩
  have l1 := intS_len (intOk_of hn.who.1 hn.who.2)
  have l2 := intS_len (intOk_of hn.num.1 hn.num.2)
  have l3 := noteS_len hn.note hn.len
  have l4 := wordsS_len hn.fit hn.what
  have e0 : Str.empty.length = 0 := rfl
  have e1 : Str.length "." = 1 := by decide +kernel
  have e2 : Str.length " seen " = 6 := by decide +kernel
  have hs := sizeLine_eq
  refine ⟨_, rfl, .inr ⟨_, rfl, intOk_of hn.who.1 hn.who.2, _, rfl, ?_, _, rfl, ?_, _, rfl, .inr ⟨_, rfl, intOk_of hn.num.1 hn.num.2, _, rfl, ?_, _, rfl, ?_, _, rfl, .inl ⟨_, rfl, ?_, _, rfl, ?_, _, rfl, ?_, _, rfl, .inl ⟨_, rfl, ?_, _, rfl, ?_, ?_⟩⟩⟩⟩⟩
  all_goals first
    | exact out H2 s2
    | (unfold intS at l1 l2; unfold noteS at l3; unfold wordsS at l4; (try simp only [len_app, e0, e1, e2, blank_len]); omega)
abbrev nShown : List Str := ["act", "who", "number", "note", "deal", "words", "many", "part"]
theorem scShown : FnScope nShown ["act"] (defScope sShown) := ⟨rfl, rfl, rfl, by decide +kernel, rfl, by decide +kernel, by decide +kernel⟩
theorem ok_shown {f : Addr} {fd : FuncData} {k : Nat} (F : Fun K "_law_shown" "_law_shown" sShown f fd) (B : Blt mg) : FnOk P w K mg base CX0 (k + 1) f fd ["act"] spShown := by
  refine F.ok scShown (fun vs H Q E h => ?_) (fun cdv A outer s H vs Q E hr h => ?_)
  · obtain ⟨p, a, rfl, _⟩ := h
    rfl
  obtain ⟨p, a, rfl, ⟨n, q, h1, h2, h3⟩, hn, out⟩ := h
  refine ⟨_, (pss_cons (ps_asg (pv 0) (pg_tup rfl (pgs_cons (pg_name (i := 1) scShown.nd rfl (.inl rfl)) (pgs_cons (pg_name (i := 2) scShown.nd rfl (.inl rfl)) (pgs_cons (pg_name (i := 3) scShown.nd rfl (.inl rfl)) (pgs_cons (pg_name (i := 4) scShown.nd rfl (.inl rfl)) pgs_nil))))))
    (pss_cons (ps_set (i := 5) scShown.nd rfl (.inl rfl) (pe_lst (pa_cons (pe_op op_add_str (pe_op op_add_str (pe_callTy call_strOf (by rfl) B.str (by decide +kernel) (pa_cons (pv 1) pa_nil)) pe_str) (pe_callTy call_strOf (by rfl) B.str (by decide +kernel) (pa_cons (pv 2) pa_nil))) (pa_cons pe_str (pa_cons (pe_join pe_str (pe_lc (own := [("many", 6)]) (g := (gName 6)) (tt := tYes) rfl scShown.nd (pi_tup (pv 3))
        (blkOk_by (N := nShown) (sc := defScope sShown) (by decide +kernel)) (fun _ _ _ _ _ => (pg_name (i := 6) scShown.nd rfl (.inl rfl))) (fun _ _ _ _ _ => pts_nil)
        (fun _ _ _ _ _ => (pe_callTy call_strOf (by rfl) B.str (by decide +kernel) (pa_cons (pv 6) pa_nil))))) pa_nil)))))
    (pss_one (ps_ret (pe_join pe_str (pe_op op_cat (pv 5) (pe_lc (own := [("part", 7)]) (g := (gName 7)) (tt := tYes) rfl scShown.nd (pi_tup (pv 4))
        (blkOk_by (N := nShown) (sc := defScope sShown) (by decide +kernel)) (fun _ _ _ _ _ => (pg_name (i := 7) scShown.nd rfl (.inl rfl))) (fun _ _ _ _ _ => pts_nil)
        (fun _ _ _ _ _ => (pe_callTy call_strOf (by rfl) B.str (by decide +kernel) (pa_cons (pv 7) pa_nil)))))))))), ?_⟩
  have l1 := intS_len (intOk_of hn.who.1 hn.who.2)
  have l2 := intS_len (intOk_of hn.num.1 hn.num.2)
  have l3 := noteS_len hn.note hn.len
  have e1 : Str.length "." = 1 := by decide +kernel
  have hs := sizeLine_eq
  refine ⟨_, rfl, p, _, rfl, sqT h1, rfl, _, _, rfl, _, _, rfl, _, _, rfl, _, _, rfl, rfl, ?_⟩
  refine ⟨_, rfl, .inl ⟨_, rfl, intOk_of hn.who.1 hn.who.2, _, _, rfl, rfl, ?_, _, rfl, .inl ⟨_, rfl, intOk_of hn.num.1 hn.num.2, _, _, rfl, rfl, ?_, ?_⟩⟩⟩
  · rw [e1]
    omega
  · rw [len_app, e1]
    omega
  -- the note
  refine ⟨⟨_, rfl⟩, _, rfl, n, rfl, ⟨_, sqT h2⟩, fun D nD => ?_⟩
  refine lc_tup (xs := a.note.map V.int) (fun i H' => Same H H' ∧ H' D = some (.lst ((a.note.take i).map fun x => V.str (intS x)))) ⟨same_new nD, upd_same⟩ (fun i H' _ h => sqT (h.1 _ _ h2)) ?_ ?_
  · rintro i y H' hi ⟨s1, hD⟩
    obtain ⟨z, hz, rfl⟩ := map_int_at hi
    have zn := hn.note z (List.mem_of_getElem? hz)
    have hi6 : i < 6 := Nat.lt_of_lt_of_le (List.getElem?_eq_some_iff.mp hz).1 hn.len
    refine ⟨rfl, _, rfl, .inl ⟨z, rfl, intOk_of zn.1 zn.2, _, hD, ?_, ?_, ?_⟩⟩
    · rw [List.length_map, List.length_take]
      exact small1000 (by omega)
    · exact fun b o e => (upd_ne (ne_of_none e nD)).trans (s1 _ _ e)
    · rw [upd_same, List.take_add_one, hz, Option.toList_some, List.map_append]
      rfl
  rintro H1 ⟨s1, hD⟩
  rw [List.length_map, List.take_length] at hD
  refine ⟨_, D, a.note.map intS, rfl, rfl, .inl (sqL (by rw [hD, List.map_map]; rfl)), Nat.le_trans (note_sum hn.note hn.len) (by decide), ?_⟩
  refine ⟨(by show 3 ≤ sizeLine; decide), fun wl nwl => ?_⟩
  have s2 : Same H (upd H1 wl (.lst [.str (intS a.who ++ "." ++ intS a.num), .str "seen", .str (noteS a.note)])) := s1.trans (same_new nwl)
  have hwl : upd H1 wl (.lst [.str (intS a.who ++ "." ++ intS a.num), .str "seen", .str (noteS a.note)]) wl = _ := upd_same
  refine ⟨⟨_, rfl⟩, _, rfl, _, rfl, q, rfl, ⟨_, sqT (s2 _ _ h3)⟩, fun D2 nD2 => ?_⟩
  have nD2' : H D2 = none := s2.free nD2
  refine lc_tup (xs := a.what.vs) (fun i H' => Same (upd H1 wl (.lst [.str (intS a.who ++ "." ++ intS a.num), .str "seen", .str (noteS a.note)])) H' ∧ H' D2 = some (.lst ((a.what.vs.take i).map fun x => V.str (strOf x)))) ⟨same_new nD2, upd_same⟩ (fun i H' _ h => sqT (h.1 _ _ (s2 _ _ h3))) ?_ ?_
  · rintro i y H' hi ⟨s3, hD2⟩
    have hi4 : i < 4 := Nat.lt_of_lt_of_le (List.getElem?_eq_some_iff.mp hi).1 (by cases a.what <;> simp [What.vs])
    have fin : ∀ t : Str, strOf y = t → ∃ acc, H' D2 = some (.lst acc) ∧ acc.length < sizeLine ∧ Same (upd H1 wl (.lst [.str (intS a.who ++ "." ++ intS a.num), .str "seen", .str (noteS a.note)])) (upd H' D2 (.lst (acc ++ [V.str t]))) ∧ upd H' D2 (.lst (acc ++ [V.str t])) D2 = some (.lst ((a.what.vs.take (i + 1)).map fun x => V.str (strOf x))) := fun t e => by
      refine ⟨_, hD2, ?_, fun b o e => (upd_ne (ne_of_none e nD2)).trans (s3 _ _ e), ?_⟩
      · rw [List.length_map, List.length_take]
        exact small1000 (by omega)
      · rw [upd_same, List.take_add_one, hi, Option.toList_some, List.map_append, ← e]
        rfl
    refine ⟨rfl, _, rfl, ?_⟩
    rcases part_ok hn.what y (List.mem_of_getElem? hi) with ⟨z, rfl, hz⟩ | ⟨z, rfl⟩
    · exact .inl ⟨z, rfl, hz, fin _ rfl⟩
    · exact .inr ⟨z, rfl, fin _ rfl⟩
  rintro H2 ⟨s3, hD2⟩
  rw [List.take_length, parts_str] at hD2
  have h4 := (strs_len hn.fit hn.what).2
  refine ⟨wl, D2, _, _, rfl, rfl, s3 _ _ hwl, hD2, ?_, fun r nr => ?_⟩
  · rw [List.length_map]
    show 3 + a.what.strs.length ≤ sizeLine
    omega
  refine ⟨_, r, [intS a.who ++ "." ++ intS a.num, "seen", noteS a.note] ++ a.what.strs, rfl, rfl, .inl (sqL ?_), ?_, ?_⟩
  · rw [upd_same, List.map_append]
    rfl
  · have h5 := strs_sum hn.fit hn.what
    have e2 : Str.length "seen" = 4 := by decide +kernel
    rw [List.map_append, List.sum_append, List.length_append]
    simp only [List.map_cons, List.map_nil, List.sum_cons, List.sum_nil, List.length_cons, List.length_nil, len_app, e1, e2, blank_len] at h5 ⊢
    omega
  · rw [shown_law]
    exact out _ ((s2.trans s3).trans (same_new nr))
end
end FR


namespace FR
open PySem PySem.Spec PyProof.Rows L2
abbrev sAny : Stmt := top 25
section
variable {P : Program} {w : World} {K : PySem.W.Frag} {mg : Str → Option Value} {base : Heap}
abbrev nAny : List Str := ["tray", "note", "k", "whom", "deal", "who", "number"]
theorem scAny : FnScope nAny ["tray"] (defScope sAny) := ⟨rfl, rfl, rfl, by decide +kernel, rfl, by decide +kernel, by decide +kernel⟩
theorem ok_any {f fD fW : Addr} {fd fdD fdW : FuncData} {k : Nat} (F : Fun K "_law_any" "_law_any" sAny f fd) (D : DrawC P w K mg base k fD fdD) (W : Cal P w K mg base k "_law_word" ["tray"] spWord fW fdW) (B : Blt mg) : FnOk P w K mg base CX0 (k + 1) f fd ["tray"] spAny := by
  refine F.ok scAny (fun vs H Q E h => ?_) (fun cdv A outer s H vs Q E hr h => ?_)
  · obtain ⟨t, g, N, rfl, _⟩ := h
    rfl
  obtain ⟨t, g, N, rfl, T, hN, q⟩ := h
  refine ⟨_, (pss_cons (ps_set (i := 1) scAny.nd rfl (.inl rfl) (pe_lst pa_nil))
    (pss_cons (ps_for PassesOwn.never rfl (pi_range1 (by rfl) B.range (pa_cons (pe_op op_add pe_int (pe_call D.ok hr (by rfl) D.m D.kp D.b .nil pass0 (pa_cons (pv 0) (pa_cons pe_int pa_nil)))) pa_nil)) (pg_name (i := 2) scAny.nd rfl (.inl rfl))
      (pss_one (ps_expr (pe_bm PySem.F.plainAttrs_list PySem.F.slot_list_append PySem.F.type_list_append mt_append (pv 1) (pa_cons (pe_ix (ix_list : IxR _ (rIxL K)) (pe_lst (pa_cons (pe_call D.ok hr (by rfl) D.m D.kp D.b .nil pass0 (pa_cons (pv 0) (pa_cons (pe_op op_pow pe_int pe_int) pa_nil))) (pa_cons (pe_call D.ok hr (by rfl) D.m D.kp D.b .nil pass0 (pa_cons (pv 0) (pa_cons pe_int pa_nil))) (pa_cons pe_int pa_nil)))) (pe_call D.ok hr (by rfl) D.m D.kp D.b .nil pass0 (pa_cons (pv 0) (pa_cons pe_int pa_nil))) (fun _ _ => rfl)) pa_nil)))))
    (pss_cons (ps_set (i := 3) scAny.nd rfl (.inl rfl) (pe_ix (ix_list : IxR _ (rIxL K)) (pe_lst (pa_cons (pe_call D.ok hr (by rfl) D.m D.kp D.b .nil pass0 (pa_cons (pv 0) (pa_cons (pe_op op_pow pe_int pe_int) pa_nil))) (pa_cons (pe_call D.ok hr (by rfl) D.m D.kp D.b .nil pass0 (pa_cons (pv 0) (pa_cons pe_int pa_nil))) pa_nil))) (pe_call D.ok hr (by rfl) D.m D.kp D.b .nil pass0 (pa_cons (pv 0) (pa_cons pe_int pa_nil))) (fun _ _ => rfl)))
    (pss_cons (ps_set (i := 4) scAny.nd rfl (.inl rfl) (pe_tup (pa_cons pe_str (pa_cons (pe_call W.ok hr (by rfl) W.m W.kp W.b .nil pass0 (pa_cons (pv 0) pa_nil)) (pa_cons (pe_call W.ok hr (by rfl) W.m W.kp W.b .nil pass0 (pa_cons (pv 0) pa_nil)) pa_nil)))))
    (C8.pss_cut (ps_if (pt_cmpR op_gt (pe_call D.ok hr (by rfl) D.m D.kp D.b .nil pass0 (pa_cons (pv 0) (pa_cons pe_int pa_nil))) pe_int (nomark _))
      (pss_one (ps_set (i := 4) scAny.nd rfl (.inl rfl) (pe_tup (pa_cons (pe_ix (ix_list : IxR _ (rIxL K)) (pe_lst (pa_cons pe_str (pa_cons pe_str pa_nil))) (pe_call D.ok hr (by rfl) D.m D.kp D.b .nil pass0 (pa_cons (pv 0) (pa_cons pe_int pa_nil))) (fun _ _ => rfl)) (pa_cons (pe_call W.ok hr (by rfl) W.m W.kp W.b .nil pass0 (pa_cons (pv 0) pa_nil)) (pa_cons (pe_ix (ix_list : IxR _ (rIxL K)) (pe_lst (pa_cons pe_str (pa_cons pe_str pa_nil))) (pe_call D.ok hr (by rfl) D.m D.kp D.b .nil pass0 (pa_cons (pv 0) (pa_cons pe_int pa_nil))) (fun _ _ => rfl)) (pa_cons (pv 3) pa_nil)))))))
      pss_nil)
    (pss_cons (ps_asg (pe_lc (own := [("k", 2)]) (g := (gName 2)) (tt := tYes) rfl scAny.nd (pi_range1 (by rfl) B.range (pa_cons pe_int pa_nil))
        (blkOk_by (N := nAny) (sc := defScope sAny) (by decide +kernel)) (fun _ _ _ _ _ => (pg_name (i := 2) scAny.nd rfl (.inl rfl))) (fun _ _ _ _ _ => pts_nil)
        (fun _ _ _ _ _ => (pe_call D.ok hr (by rfl) D.m D.kp D.b .nil pass0 (pa_cons (pv 0) (pa_cons (pe_ix (ix_list : IxR _ (rIxL K)) (pe_lst (pa_cons pe_int (pa_cons (pe_op op_pow pe_int pe_int) pa_nil))) (pe_call D.ok hr (by rfl) D.m D.kp D.b .nil pass0 (pa_cons (pv 0) (pa_cons pe_int pa_nil))) (fun _ _ => rfl)) pa_nil))))) (pg_unl rfl (pgs_cons (pg_name (i := 5) scAny.nd rfl (.inl rfl)) (pgs_cons (pg_name (i := 6) scAny.nd rfl (.inl rfl)) pgs_nil))))
    (pss_one (ps_ret (pe_tup (pa_cons (pv 5) (pa_cons (pv 6) (pa_cons (pe_callTy call_tuple_of (by rfl) B.tuple (by decide +kernel) (pa_cons (pv 1) pa_nil)) (pa_cons (pv 4) pa_nil))))))))))))), ?_⟩
  refine ⟨Nat.zero_le _, fun n0 nn0 => ?_⟩
  have T0 := T.same (same_new (o := .lst []) nn0)
  have nT := T.neT nn0
  refine ⟨_, rfl, t, g, N, 6, rfl, T0, by omega, by decide, by decide, fun H1 k1 h10 h11 T1 kp1 => ?_⟩
  have kH1 : Kp [t, g] H H1 := (Kp.new nn0).trans kp1
  refine ⟨_, _, rfl, rfl, 1 + k1, rfl, by omega, by omega, for_range (lo := 0) (n := (1 + k1).toNat) (fun i σ H' => ∃ (v2 : Option V) (ns : List Int), σ = [some (.ref t), some (.ref n0), v2, none, none, none, none] ∧
      H' n0 = some (.lst (ns.map V.int)) ∧ ns.length = i ∧ (∀ x ∈ ns, FR.Num x) ∧ TrayAt H' t g (N + 1 + 3 * i) ∧ Kp [t, g] H H') ⟨none, [], rfl, kp1.lst upd_same nT, rfl, by simp, T1, kH1⟩ ?_ ?_⟩
  · rintro i σ H2 hi ⟨v2, ns, rfl, hn0, hl, hnum, T2, kp2⟩
    refine ⟨_, rfl, .inl ⟨rfl, _, SqL.of hn0⟩, _, rfl, _, _, rfl, rfl, ⟨by decide, by decide, by decide⟩, t, g, _, _, rfl, T2, by omega, by decide, by decide, fun H3 k3 h30 h31 T3 kp3 => ?_⟩
    refine ⟨_, rfl, t, g, _, 4, rfl, T3, by omega, by decide, by decide, fun H4 k4 h40 h41 T4 kp4 => ?_⟩
    refine ⟨(by show 3 ≤ sizeLine; decide), fun p np => ?_⟩
    have T5 := T4.same (same_new (o := .lst [.int k3, .int k4, .int 0]) np)
    have hp5 : upd H4 p (.lst [.int k3, .int k4, .int 0]) p = _ := upd_same
    have kp5 : Kp [t, g] H2 (upd H4 p (.lst [.int k3, .int k4, .int 0])) := (kp3.trans kp4).trans (.new np)
    have npT := T4.neT np
    generalize upd H4 p (.lst [.int k3, .int k4, .int 0]) = H5 at T5 hp5 kp5
    refine ⟨_, rfl, t, g, _, 3, rfl, T5, by omega, by decide, by decide, fun H6 k6 h60 h61 T6 kp6 => ?_⟩
    obtain ⟨z, ez, hz⟩ := three_at (a := k3) (b := k4) (c := 0) h60 h61 ⟨h30, h31⟩ ⟨h40, by omega⟩ ⟨by decide, by decide⟩
    have k26 := kp5.trans kp6
    refine ⟨p, _, _, _, rfl, rfl, SqL.of (kp6.lst hp5 npT), ez, n0, _, _, rfl, rfl, k26.lst hn0 nT, ?_, ?_⟩
    · rw [List.length_map]
      exact small1000 (by omega)
    · refine ⟨_, ns ++ [z], rfl, ?_, ?_, ?_, (T6.over nT).mono (by omega), (kp2.trans k26).over nn0⟩
      · rw [upd_same, List.map_append]
        rfl
      · rw [List.length_append, hl]
        rfl
      · intro c mc
        rcases List.mem_append.mp mc with mc | mc
        · exact hnum c mc
        · rw [List.mem_singleton.mp mc]
          exact hz
  rintro σ H2 ⟨v2, ns, rfl, hn0, hl, hnum, T2, kp2⟩
  have hl6 : 1 ≤ ns.length ∧ ns.length ≤ 6 := by omega
  -- whom
  refine ⟨_, rfl, _, _, rfl, rfl, ⟨by decide, by decide, by decide⟩, t, g, _, _, rfl, T2, by omega, by decide, by decide, fun H3 k3 h30 h31 T3 kp3 => ?_⟩
  refine ⟨_, rfl, t, g, _, 6, rfl, T3, by omega, by decide, by decide, fun H4 k4 h40 h41 T4 kp4 => ?_⟩
  refine ⟨(by show 2 ≤ sizeLine; decide), fun p np => ?_⟩
  have T5 := T4.same (same_new (o := .lst [.int k3, .int k4]) np)
  have hp5 : upd H4 p (.lst [.int k3, .int k4]) p = _ := upd_same
  have kp5 : Kp [t, g] H2 (upd H4 p (.lst [.int k3, .int k4])) := (kp3.trans kp4).trans (.new np)
  have npT := T4.neT np
  generalize upd H4 p (.lst [.int k3, .int k4]) = H5 at T5 hp5 kp5
  refine ⟨_, rfl, t, g, _, 2, rfl, T5, by omega, by decide, by decide, fun H6 k6 h60 h61 T6 kp6 => ?_⟩
  obtain ⟨whom, ewh, hwh⟩ := two_at (a := k3) (b := k4) h60 h61 ⟨h30, h31⟩ ⟨h40, by omega⟩
  have k26 := kp5.trans kp6
  refine ⟨p, _, _, _, rfl, rfl, SqL.of (kp6.lst hp5 npT), ewh, ?_⟩
  have kH6 := kp2.trans k26
  have hn6 := k26.lst hn0 nT
  -- the deal
  refine ⟨_, rfl, t, g, _, rfl, T6, by omega, fun H7 s1 ok1 T7 kp7 => ?_⟩
  refine ⟨_, rfl, t, g, _, rfl, T7, by omega, fun H8 s2 ok2 T8 kp8 => ?_⟩
  refine ⟨(by show 3 ≤ sizeLine; decide), fun d nd => ?_⟩
  have T9 := T8.same (same_new (o := .tup [.str "use", .str s1, .str s2]) nd)
  have hd9 : upd H8 d (.tup [.str "use", .str s1, .str s2]) d = some (.tup (What.vs (.use s1 s2))) := upd_same
  have kp9 : Kp [t, g] H6 (upd H8 d (.tup [.str "use", .str s1, .str s2])) := (kp7.trans kp8).trans (.new nd)
  generalize upd H8 d (.tup [.str "use", .str s1, .str s2]) = H9 at T9 hd9 kp9
  have kH9 := kH6.trans kp9
  have hn9 := kp9.lst hn6 nT
  refine ⟨fun σ H' => ∃ (wt : What) (dq : Addr), σ = [some (.ref t), some (.ref n0), v2, some (.int whom), some (.ref dq), none, none] ∧ H' dq = some (.tup wt.vs) ∧ wt.Fit ∧ wt.Num ∧ H' n0 = some (.lst (ns.map V.int)) ∧ TrayAt H' t g (N + 80) ∧ Kp [t, g] H H', ?_, ?_⟩
  · refine ⟨_, rfl, t, g, _, 3, rfl, T9, by omega, by decide, by decide, fun H10 k10 h100 h101 T10 kp10 => ?_⟩
    refine ⟨_, _, rfl, rfl, _, rfl, ite2 (fun c => ?_) (fun c => ?_)⟩
    · refine ⟨(by show 2 ≤ sizeLine; decide), fun p2 np2 => ?_⟩
      have T11 := T10.same (same_new (o := .lst [.str "give", .str "take"]) np2)
      have hp11 : upd H10 p2 (.lst [.str "give", .str "take"]) p2 = _ := upd_same
      have kp11 : Kp [t, g] H9 (upd H10 p2 (.lst [.str "give", .str "take"])) := kp10.trans (.new np2)
      have np2T := T10.neT np2
      generalize upd H10 p2 (.lst [.str "give", .str "take"]) = H11 at T11 hp11 kp11
      refine ⟨_, rfl, t, g, _, 2, rfl, T11, by omega, by decide, by decide, fun H12 k12 h120 h121 T12 kp12 => ?_⟩
      obtain ⟨ge, ege, hge⟩ := gt_at h120 h121
      refine ⟨p2, _, _, _, rfl, rfl, SqL.of (kp12.lst hp11 np2T), ege, ?_⟩
      refine ⟨_, rfl, t, g, _, rfl, T12, by omega, fun H13 s3 ok3 T13 kp13 => ?_⟩
      refine ⟨(by show 2 ≤ sizeLine; decide), fun p3 np3 => ?_⟩
      have T14 := T13.same (same_new (o := .lst [.str "use", .str "lead"]) np3)
      have hp14 : upd H13 p3 (.lst [.str "use", .str "lead"]) p3 = _ := upd_same
      have kp14 : Kp [t, g] H13 (upd H13 p3 (.lst [.str "use", .str "lead"])) := .new np3
      have np3T := T13.neT np3
      generalize upd H13 p3 (.lst [.str "use", .str "lead"]) = H14 at T14 hp14 kp14
      refine ⟨_, rfl, t, g, _, 2, rfl, T14, by omega, by decide, by decide, fun H15 k15 h150 h151 T15 kp15 => ?_⟩
      obtain ⟨ki, hki, eki⟩ := kind_at h150 h151
      refine ⟨p3, _, _, _, rfl, rfl, SqL.of (kp15.lst hp14 np3T), eki, _, rfl, (by show 4 ≤ sizeLine; decide), fun d2 nd2 => ?_⟩
      have kp16 : Kp [t, g] H9 H15 := (((kp11.trans kp12).trans kp13).trans kp14).trans kp15
      have k17 : Kp [t, g] H9 (upd H15 d2 (.tup [.str ge, .str s3, .str ki, .int whom])) := kp16.trans (.new nd2)
      have T17 := (T15.same (same_new (o := .tup [.str ge, .str s3, .str ki, .int whom]) nd2)).mono (show _ ≤ N + 80 by omega)
      rcases hge with rfl | rfl
      · exact ⟨.give s3 ki whom, d2, rfl, upd_same, ⟨ok3, hki⟩, hwh, k17.lst hn9 nT, T17, kH9.trans k17⟩
      · exact ⟨.take s3 ki whom, d2, rfl, upd_same, ⟨ok3, hki⟩, hwh, k17.lst hn9 nT, T17, kH9.trans k17⟩
    · exact ⟨.use s1 s2, d, rfl, kp10.tp _ _ hd9, ⟨ok1, ok2⟩, trivial, kp10.lst hn9 nT, T10.mono (by omega), kH9.trans kp10⟩
  rintro σ H10 ⟨wt, dq, rfl, hdq, fit, num, hn10, T10, kH10⟩
  -- who, number
  refine ⟨2, rfl, by decide, by decide, fun D' nD => ?_⟩
  have nDH := kH10.dm D' nD
  have nDT := T10.neT nD
  have n0D : n0 ≠ D' := (ne_new hn10 nD).symm
  refine lc_range (lo := 0) (n := 2) (fun i H' => ∃ zs : List Int, H' D' = some (.lst (zs.map V.int)) ∧ zs.length = i ∧ (∀ x ∈ zs, FR.Num x) ∧ H' n0 = some (.lst (ns.map V.int)) ∧ TrayAt H' t g (N + 80 + 2 * i) ∧ Kp [t, g] H10 H')
    ⟨[], upd_same, rfl, by simp, (upd_ne n0D).trans hn10, T10.same (same_new nD), .new nD⟩ ?_ ?_
  · rintro i H11 hi ⟨zs, hD, hzl, hz, hn11, T11, kp11⟩
    refine ⟨rfl, _, rfl, _, _, rfl, rfl, ⟨by decide, by decide, by decide⟩, (by show 2 ≤ sizeLine; decide), fun p2 np2 => ?_⟩
    have T12 := T11.same (same_new (o := .lst [.int 9, .int (10 ^ Int.toNat 9)]) np2)
    have hp12 : upd H11 p2 (.lst [.int 9, .int (10 ^ Int.toNat 9)]) p2 = _ := upd_same
    have kp12 : Kp [t, g] H11 (upd H11 p2 (.lst [.int 9, .int (10 ^ Int.toNat 9)])) := .new np2
    have np2T := T11.neT np2
    generalize upd H11 p2 (.lst [.int 9, .int (10 ^ Int.toNat 9)]) = H12 at T12 hp12 kp12
    refine ⟨_, rfl, t, g, _, 2, rfl, T12, by omega, by decide, by decide, fun H13 k13 h130 h131 T13 kp13 => ?_⟩
    obtain ⟨b, eb, hb⟩ : ∃ z : Int, atI ([.int 9, .int (10 ^ Int.toNat 9)] : List V) k13 = some (.int z) ∧ (z = 9 ∨ z = 10 ^ Int.toNat 9) := by
      have e : k13 = 0 ∨ k13 = 1 := by omega
      rcases e with rfl | rfl
      · exact ⟨_, rfl, .inl rfl⟩
      · exact ⟨_, rfl, .inr rfl⟩
    have hb' : 0 < b ∧ b ≤ 10 ^ 9 := by rcases hb with rfl | rfl <;> exact ⟨by decide, by decide⟩
    refine ⟨p2, _, _, _, rfl, rfl, SqL.of (kp13.lst hp12 np2T), eb, t, g, _, b, rfl, T13, by omega, hb'.1, by omega, fun H14 k14 h140 h141 T14 kp14 => ?_⟩
    have k114 := (kp12.trans kp13).trans kp14
    have hn14 := k114.lst hn11 nT
    refine ⟨_, k114.lst hD nDT, ?_, zs ++ [k14], ?_, ?_, ?_, (upd_ne n0D).trans hn14, (T14.over nDT).mono (by omega), (kp11.trans k114).over nD⟩
    · rw [List.length_map]
      exact small1000 (by omega)
    · rw [upd_same, List.map_append]
      rfl
    · rw [List.length_append, hzl]
      rfl
    · intro c mc
      rcases List.mem_append.mp mc with mc | mc
      · exact hz c mc
      · rw [List.mem_singleton.mp mc]
        exact ⟨h140, by omega⟩
  rintro H11 ⟨zs, hD, hzl, hz, hn11, T11, kp11⟩
  match zs, hzl with
  | [who, number], _ =>
    have hw := hz who (by simp)
    have hm := hz number (by simp)
    refine ⟨D', _, rfl, sqL hD, rfl, _, _, rfl, _, _, rfl, rfl, ?_⟩
    refine ⟨_, rfl, _, rfl, _, rfl, n0, _, rfl, .inl ⟨sqL hn11, fun nt nnt => ?_⟩⟩
    have k12 : Kp [t, g] H11 (upd H11 nt (.tup (ns.map V.int))) := .new nnt
    have hnt : upd H11 nt (.tup (ns.map V.int)) nt = _ := upd_same
    have T12 := T11.same (same_new (o := .tup (ns.map V.int)) nnt)
    generalize upd H11 nt (.tup (ns.map V.int)) = H12 at k12 hnt T12
    refine ⟨_, rfl, (by show 4 ≤ sizeLine; decide), fun r nr => ?_⟩
    have kH12 : Kp [t, g] H H12 := (kH10.trans kp11).trans k12
    have hdq12 := (kp11.trans k12).tp _ _ hdq
    exact q _ r ⟨who, number, ns, wt⟩ (kH12.dm _ nr) ⟨nt, dq, upd_same, upd_at hnt nr, upd_at hdq12 nr⟩ ⟨hw, hm, hnum, hl6.2, fun e => by have := hl6.1; rw [show ns = [] from e] at this; exact absurd this (by decide), num, fit⟩ ((T12.same (same_new nr)).mono (by omega)) (kH12.trans (.new nr))
end
end FR


namespace FR
open PySem PySem.Spec PyProof.Rows L2
abbrev sLaw : Stmt := top 26
theorem plain_refl {H : Hp} {n : Nat} : ∀ {l : List V}, (∀ x ∈ l, plainV x = true) → Paired (Al H (n + 1)) l l
  | [], _ => .nil
  | x :: r, h => .cons (Al.flat (h x List.mem_cons_self)) (plain_refl fun y m => h y (List.mem_cons_of_mem _ m))
theorem act_al {H : Hp} {q p : Addr} {a : Act} (h : ActAt H q a) (k : ActAt H p a) (hl : a.note.length ≤ 6) : Al H 3 (.ref q) (.ref p) := by
  obtain ⟨n, w, h1, h2, h3⟩ := h
  obtain ⟨n', w', k1, k2, k3⟩ := k
  refine Al.tup h1 k1 (by show 4 ≤ 1000; decide) (.cons (Al.flat rfl) (.cons (Al.flat rfl) (.cons (Al.tup h2 k2 (by rw [List.length_map]; omega) (plain_refl ?_)) (.cons (Al.tup h3 k3 ?_ (plain_refl ?_)) .nil))))
  · intro x m
    obtain ⟨i, _, rfl⟩ := List.mem_map.mp m
    rfl
  · cases a.what <;> simp [What.vs]
  · intro x m
    cases hw : a.what <;> rw [hw] at m <;> simp only [What.vs, List.mem_cons, List.not_mem_nil, or_false] at m
    · rcases m with rfl | rfl | rfl | rfl <;> rfl
    · rcases m with rfl | rfl | rfl | rfl <;> rfl
    · rcases m with rfl | rfl | rfl <;> rfl
section
variable {P : Program} {w : World} {K : PySem.W.Frag} {mg : Str → Option Value} {base : Heap}
/-- a deed of plain numbers -/
def Plain (H : Hp) (p : Addr) : Prop := ∃ a, ActAt H p a ∧ a.Num
theorem Plain.keep {S : List Addr} {H H' : Hp} {p : Addr} (h : Plain H p) (k : Kp S H H') : Plain H' p := by
  obtain ⟨a, h1, h2⟩ := h
  exact ⟨a, h1.keep k, h2⟩
abbrev nLaw : List Str := ["script", "tray", "many", "acts", "act", "line", "k"]
theorem scLaw : FnScope nLaw ["script"] (defScope sLaw) := ⟨rfl, rfl, rfl, by decide +kernel, rfl, by decide +kernel, by decide +kernel⟩
theorem ok_law {f fT fM fW fS fO fA fR fL : Addr} {fd fdT fdM fdW fdS fdO fdA fdR fdL : FuncData} {k : Nat} (F : Fun K "law" "law" sLaw f fd) (T : Cal P w K mg base k "_law_tray" ["script"] (spTray K) fT fdT) (M : Cal P w K mg base k "_law_most" ["tray"] spMost fM fdM)
    (W : Cal P w K mg base k "_law_world" ["tray", "most"] spWorld fW fdW) (S : Cal P w K mg base k "show_deed" ["deed"] spShown fS fdS) (O : Cal P w K mg base k "_law_shown" ["act"] spShown fO fdO) (A : Cal P w K mg base k "_law_any" ["tray"] spAny fA fdA)
    (R : Cal P w K mg base k "read_deed" ["text"] spRead fR fdR) (kR : KBn K fdR ["text"] 0 ["text"] kwsOnly kwsOnly) (L : Cal P w K mg base k "_law_alike" ["found", "due"] (spAlike 3) fL fdL) (B : Blt mg) : FnOk P w K mg base CX0 (k + 1) f fd ["script"] (spLaw K) := by
  refine F.ok scLaw (fun vs H Q E h => ?_) (fun cdv A' outer s H vs Q E hr h => ?_)
  · obtain ⟨a, ns, rfl, _⟩ := h
    rfl
  obtain ⟨a, ns, rfl, hS, h63, q⟩ := h
  refine ⟨_, (pss_cons (ps_set (i := 1) scLaw.nd rfl (.inr rfl) (pe_call T.ok hr (by rfl) T.m T.kp T.b .nil pass0 (pa_cons (pv 0) pa_nil)))
    (pss_cons (ps_asg (pe_call W.ok hr (by rfl) W.m W.kp W.b .nil pass0 (pa_cons (pv 1) (pa_cons (pe_call M.ok hr (by rfl) M.m M.kp M.b .nil pass0 (pa_cons (pv 1) pa_nil)) pa_nil))) (pg_unl rfl (pgs_cons (pg_name (i := 2) scLaw.nd rfl (.inl rfl)) (pgs_cons (pg_name (i := 3) scLaw.nd rfl (.inl rfl)) pgs_nil))))
    (pss_cons (ps_for PassesOwn.never rfl (pi_list (pe_op op_cat (pv 3) (pe_lc (own := [("k", 6)]) (g := (gName 6)) (tt := tYes) rfl scLaw.nd (pi_range1 (by rfl) B.range (pa_cons (pe_op op_add pe_int (pe_callB call_len_seq (by rfl) B.len PySem.boot_len (pa_cons (pe_slice (sl_list : SlR _ (rSlL K)) (pv 0) po_none (po_some pe_int)) pa_nil))) pa_nil))
        (blkOk_by (N := nLaw) (sc := defScope sLaw) (by decide +kernel)) (fun _ _ _ _ _ => (pg_name (i := 6) scLaw.nd rfl (.inl rfl))) (fun _ _ _ _ _ => pts_nil)
        (fun _ _ _ _ _ => (pe_call A.ok hr (by rfl) A.m A.kp A.b .nil pass0 (pa_cons (pv 1) pa_nil)))))) (pg_name (i := 4) scLaw.nd rfl (.inl rfl))
      (pss_cons (ps_set (i := 5) scLaw.nd rfl (.inl rfl) (pe_call O.ok hr (by rfl) O.m O.kp O.b .nil pass0 (pa_cons (pv 4) pa_nil)))
        (pss_one (ps_if (PW.pt (pw_or (pt_not (pt_val (pe_call L.ok hr (by rfl) L.m L.kp L.b .nil pass0 (pa_cons (pe_call R.ok hr (by rfl) R.m R.kp R.b .nil pass0 (pa_cons (pv 5) pa_nil)) (pa_cons (pv 4) pa_nil))))) (pw_or (pt_not (pt_val (pe_call L.ok hr (by rfl) L.m L.kp L.b .nil pass0 (pa_cons (pe_callKw R.ok hr (by rfl) R.m R.kp kR pass0 (pk_cons (pv 5) pk_nil)) (pa_cons (pv 4) pa_nil))))) (pw_or1 (pt_cmpR op_ne (pe_call S.ok hr (by rfl) S.m S.kp S.b .nil pass0 (pa_cons (pv 4) pa_nil)) (pv 5) (nomark _))))))
          (pss_one (ps_ret pe_bl))
          pss_nil))))
    (pss_one (ps_ret pe_bl))))), ?_⟩
  refine ⟨_, rfl, a, ns, rfl, hS, h63, fun t g H1 s1 nt ng T1 => ?_⟩
  refine ⟨_, rfl, _, rfl, t, g, 0, rfl, T1, by decide, fun H2 most m0 m110 T2 k2 => ?_⟩
  refine ⟨t, g, 1, most, rfl, T2, m0, by omega, by decide, fun H3 r ac ps many acts known b1 b6 hlen wd nr nac nrT nacT hr3 hac ha T3 k3 => ?_⟩
  refine ⟨r, _, rfl, sqL hr3, rfl, _, _, rfl, _, _, rfl, rfl, ?_⟩
  have hpl := paired_len ha
  have nums := wd.nums b1 b6 (by omega)
  have good3 : ∀ p ∈ ps, Plain H3 p := fun p mp => by
    obtain ⟨j, hj⟩ := List.getElem?_of_mem mp
    obtain ⟨x, hx, h⟩ := paired_at ha hj
    exact ⟨x, h, nums x (List.mem_of_getElem? hx)⟩
  have hS3 : SqL K H3 a (ns.map V.int) := seq_kp hS (((Kp.of s1).trans k2).trans k3) fun b m => by
    simp only [List.mem_cons, List.not_mem_nil, or_false] at m
    rcases m with rfl | rfl
    · exact nt
    · exact ng
  -- acts + [..]
  refine ⟨_, rfl, _, rfl, 9, rfl, a, _, rfl, hS3, fun sl nsl => ?_⟩
  rw [show (9 : Int) = ((9 : Nat) : Int) from rfl, cut_take, ← List.map_take]
  have k4 : Kp [t, g] H3 (upd H3 sl (.lst ((ns.take 9).map V.int))) := .new nsl
  have T4 := T3.same (same_new (o := .lst ((ns.take 9).map V.int)) nsl)
  have hsl : upd H3 sl (.lst ((ns.take 9).map V.int)) sl = _ := upd_same
  generalize upd H3 sl (.lst ((ns.take 9).map V.int)) = H4 at k4 T4 hsl
  have l9 : ((ns.take 9).map V.int).length ≤ 9 := by
    rw [List.length_map, List.length_take]
    omega
  refine ⟨sl, _, rfl, .inl (sqL hsl), _, _, rfl, rfl, _, rfl, by omega, by omega, fun D nD => ?_⟩
  have nDT := T4.neT nD
  generalize hn4 : (4 + (((ns.take 9).map V.int).length : Int)).toNat = n4
  have hn13 : n4 ≤ 13 := by omega
  refine lc_range (lo := 0) (n := n4) (fun i H' => ∃ qs : List Addr, H' D = some (.lst (qs.map V.ref)) ∧ qs.length = i ∧ (∀ p ∈ qs, Plain H' p) ∧ TrayAt H' t g (2401 + 200 * i) ∧ Kp [t, g] H4 H') ⟨[], upd_same, rfl, by simp, (T4.same (same_new nD)).mono (by omega), .new nD⟩ ?_ ?_
  · rintro i H5 hi ⟨qs, hD, hl, hg, T5, k5⟩
    refine ⟨rfl, _, rfl, t, g, _, rfl, T5, by omega, fun H6 p x np hx hnum T6 k6 => ?_⟩
    have k7 : Kp [D] H6 (upd H6 D (.lst (qs.map V.ref ++ [.ref p]))) := .set (k6.lst hD nDT) (by simp)
    refine ⟨_, k6.lst hD nDT, ?_, qs ++ [p], ?_, ?_, fun y my => ?_, (T6.over nDT).mono (by omega), (k5.trans k6).over nD⟩
    · rw [List.length_map]
      exact small1000 (by omega)
    · rw [upd_same, List.map_append]
      rfl
    · rw [List.length_append, hl]
      rfl
    · rcases List.mem_append.mp my with my | my
      · exact ((hg y my).keep k6).keep k7
      · rw [List.mem_singleton.mp my]
        exact Plain.keep ⟨x, hx, hnum⟩ k7
  rintro H5 ⟨qs, hD, hl, hg, T5, k5⟩
  have hac5 := k5.lst (k4.lst hac nacT) nacT
  have good5 : ∀ p ∈ ps ++ qs, Plain H5 p := fun p mp => by
    rcases List.mem_append.mp mp with mp | mp
    · exact ((good3 p mp).keep k4).keep k5
    · exact hg p mp
  have sz : ps.length ≤ 110 := by omega
  refine ⟨ac, D, _, _, rfl, rfl, hac5, hD, ?_, fun l2 nl2 => ?_⟩
  · rw [List.length_map, List.length_map, hl]
    exact Nat.le_of_lt (small1000 (by omega))
  rw [← List.map_append]
  have nl2T := T5.neT nl2
  refine ⟨l2, rfl, ⟨_, sqL upd_same⟩, for_list (K := K) (a := l2) (xs := (ps ++ qs).map V.ref) (fun i σ H' => ∃ v4 v5, σ = [some (.ref a), some (.ref t), some (.int (many : Int)), some (.ref ac), v4, v5, none] ∧ Same (upd H5 l2 (.lst ((ps ++ qs).map V.ref))) H')
    ⟨none, none, rfl, Same.refl _⟩ (fun i σ H' _ ⟨_, _, _, s⟩ => sqL (s _ _ upd_same)) ?_ ?_⟩
  · rintro i y σ H6 hi ⟨v4, v5, rfl, s6⟩
    rw [List.getElem?_map] at hi
    obtain ⟨p, hp, rfl⟩ := Option.map_eq_some_iff.mp hi
    obtain ⟨x, hx, hnum⟩ := (good5 p (List.mem_of_getElem? hp)).keep (S := []) (.new (o := .lst ((ps ++ qs).map V.ref)) nl2)
    have hx6 := hx.keep (S := []) (.of s6)
    refine ⟨_, rfl, p, x, rfl, hx6, hnum, fun H7 s7 => ?_⟩
    have hx7 := hx6.keep (S := []) (.of s7)
    refine ⟨_, rfl, x, rfl, hnum, fun q1 H8 s8 nq1 hq1 => ?_⟩
    have hx8 := hx7.keep (S := []) (.of s8)
    refine ⟨_, rfl, _, _, rfl, act_al hq1 hx8 hnum.len, fun H9 s9 => ⟨true, rfl, iteF ?_⟩⟩
    have hx9 := hx8.keep (S := []) (.of s9)
    refine ⟨_, rfl, rfl, rfl, x, rfl, hnum, fun q2 H10 s10 nq2 hq2 => ?_⟩
    have hx10 := hx9.keep (S := []) (.of s10)
    refine ⟨_, rfl, _, _, rfl, act_al hq2 hx10 hnum.len, fun H11 s11 => ⟨true, rfl, iteF ?_⟩⟩
    have hx11 := hx10.keep (S := []) (.of s11)
    refine ⟨_, rfl, p, x, rfl, hx11, hnum, fun H12 s12 => ⟨_, rfl, rfl, _, rfl, ?_⟩⟩
    rw [decide_eq_true rfl]
    exact iteF ⟨_, _, rfl, (((((s6.trans s7).trans s8).trans s9).trans s10).trans s11).trans s12⟩
  · rintro σ H6 ⟨v4, v5, rfl, s6⟩
    exact q _
end
end FR


namespace FR
open PySem L2
theorem alike0 {P : Program} {w : World} {K : PySem.W.Frag} {mg : Str → Option Value} {base : Heap} {f : Addr} {fd : FuncData} : FnOk P w K mg base CX0 0 f fd ["found", "due"] (spAlike 0) := by
  have no : ∀ vs H Q E, ¬ spAlike 0 vs H Q E := fun vs H Q E h => by
    obtain ⟨x, y, _, h, _⟩ := h
    exact h
  exact ⟨fun vs H Q E h => absurd h (no vs H Q E), fun A outer s H args us vs Q E _ _ _ _ h => absurd h (no vs H Q E)⟩
theorem all_mk {l : PySem.W.OpenLaw} {w : World} {K : PySem.W.Frag} {h : Heap} {mg : Str → Option Value} {fa f1 f2 f3 f4 f5 f6 f7 f8 f9 f10 f11 f12 f13 f14 f15 f16 f17 f18 f19 : Addr} (X : K.In h) (G : h.Ns mainGlobals mg) (hfa : mg "law" = some (.ref fa))
    {od1 an1 od2 an2 od3 an3 od4 an4 od5 an5 od6 an6 od7 an7 od8 an8 od9 an9 od10 an10 od11 an11 od12 an12 od13 an13 od14 an14 od15 an15 od16 an16 od17 an17 od18 an18 od19 an19 : Option Addr} {sl1 sl2 sl3 sl4 sl5 sl6 sl7 sl8 sl9 sl10 sl11 sl12 sl13 sl14 sl15 sl16 sl17 sl18 sl19 : Array (Option Value)}
    {oc1 kV1 dc1 pm1 cd1 ct1 oc2 kV2 dc2 pm2 cd2 ct2 oc3 kV3 dc3 pm3 cd3 ct3 oc4 kV4 dc4 pm4 cd4 ct4 oc5 kV5 dc5 pm5 cd5 ct5 oc6 kV6 dc6 pm6 cd6 ct6 oc7 kV7 dc7 pm7 cd7 ct7 oc8 kV8 dc8 pm8 cd8 ct8 oc9 kV9 dc9 pm9 cd9 ct9 oc10 kV10 dc10 pm10 cd10 ct10 oc11 kV11 dc11 pm11 cd11 ct11 oc12 kV12 dc12 pm12 cd12 ct12 oc13 kV13 dc13 pm13 cd13 ct13 oc14 kV14 dc14 pm14 cd14 ct14 oc15 kV15 dc15 pm15 cd15 ct15 oc16 kV16 dc16 pm16 cd16 ct16 oc17 kV17 dc17 pm17 cd17 ct17 oc18 kV18 dc18 pm18 cd18 ct18 oc19 kV19 dc19 pm19 cd19 ct19 : Value}
    (a1 : PySem.W.nsIn K mainGlobals "show_deed" = some (some (.ref f1))) (l1 : K.lookup f1 = some ⟨oc1, od1, .func (PySem.W.fnOf "show_deed" "show_deed" (defArgs sShow) (defBody sShow) (defScope sShow) .none kV1 dc1 pm1 an1 cd1 ct1), sl1⟩)
    (c1 : PySem.W.codeIn K cd1 "show_deed" = true) (k1 : PySem.W.keepIn K (.ref f1) = true)
    (a2 : PySem.W.nsIn K mainGlobals "read_deed" = some (some (.ref f2))) (l2 : K.lookup f2 = some ⟨oc2, od2, .func (PySem.W.fnOf "read_deed" "read_deed" (defArgs sRead) (defBody sRead) (defScope sRead) .none kV2 dc2 pm2 an2 cd2 ct2), sl2⟩)
    (c2 : PySem.W.codeIn K cd2 "read_deed" = true) (k2 : PySem.W.keepIn K (.ref f2) = true)
    (a3 : PySem.W.nsIn K mainGlobals "_is_head" = some (some (.ref f3))) (l3 : K.lookup f3 = some ⟨oc3, od3, .func (PySem.W.fnOf "_is_head" "_is_head" (defArgs sHead) (defBody sHead) (defScope sHead) .none kV3 dc3 pm3 an3 cd3 ct3), sl3⟩)
    (c3 : PySem.W.codeIn K cd3 "_is_head" = true) (k3 : PySem.W.keepIn K (.ref f3) = true)
    (a4 : PySem.W.nsIn K mainGlobals "_is_what" = some (some (.ref f4))) (l4 : K.lookup f4 = some ⟨oc4, od4, .func (PySem.W.fnOf "_is_what" "_is_what" (defArgs sIsWhat) (defBody sIsWhat) (defScope sIsWhat) .none kV4 dc4 pm4 an4 cd4 ct4), sl4⟩)
    (c4 : PySem.W.codeIn K cd4 "_is_what" = true) (k4 : PySem.W.keepIn K (.ref f4) = true)
    (a5 : PySem.W.nsIn K mainGlobals "_is_name" = some (some (.ref f5))) (l5 : K.lookup f5 = some ⟨oc5, od5, .func (PySem.W.fnOf "_is_name" "_is_name" (defArgs sIsName) (defBody sIsName) (defScope sIsName) .none kV5 dc5 pm5 an5 cd5 ct5), sl5⟩)
    (c5 : PySem.W.codeIn K cd5 "_is_name" = true) (k5 : PySem.W.keepIn K (.ref f5) = true)
    (a6 : PySem.W.nsIn K mainGlobals "_is_number" = some (some (.ref f6))) (l6 : K.lookup f6 = some ⟨oc6, od6, .func (PySem.W.fnOf "_is_number" "_is_number" (defArgs sIsNum) (defBody sIsNum) (defScope sIsNum) .none kV6 dc6 pm6 an6 cd6 ct6), sl6⟩)
    (c6 : PySem.W.codeIn K cd6 "_is_number" = true) (k6 : PySem.W.keepIn K (.ref f6) = true)
    (a7 : PySem.W.nsIn K mainGlobals "_are_numbers" = some (some (.ref f7))) (l7 : K.lookup f7 = some ⟨oc7, od7, .func (PySem.W.fnOf "_are_numbers" "_are_numbers" (defArgs sAre) (defBody sAre) (defScope sAre) .none kV7 dc7 pm7 an7 cd7 ct7), sl7⟩)
    (c7 : PySem.W.codeIn K cd7 "_are_numbers" = true) (k7 : PySem.W.keepIn K (.ref f7) = true)
    (a8 : PySem.W.nsIn K mainGlobals "_numbers" = some (some (.ref f8))) (l8 : K.lookup f8 = some ⟨oc8, od8, .func (PySem.W.fnOf "_numbers" "_numbers" (defArgs sNums) (defBody sNums) (defScope sNums) .none kV8 dc8 pm8 an8 cd8 ct8), sl8⟩)
    (c8 : PySem.W.codeIn K cd8 "_numbers" = true) (k8 : PySem.W.keepIn K (.ref f8) = true)
    (a9 : PySem.W.nsIn K mainGlobals "_what" = some (some (.ref f9))) (l9 : K.lookup f9 = some ⟨oc9, od9, .func (PySem.W.fnOf "_what" "_what" (defArgs sWhatOf) (defBody sWhatOf) (defScope sWhatOf) .none kV9 dc9 pm9 an9 cd9 ct9), sl9⟩)
    (c9 : PySem.W.codeIn K cd9 "_what" = true) (k9 : PySem.W.keepIn K (.ref f9) = true)
    (a10 : PySem.W.nsIn K mainGlobals "_law_tray" = some (some (.ref f10))) (l10 : K.lookup f10 = some ⟨oc10, od10, .func (PySem.W.fnOf "_law_tray" "_law_tray" (defArgs sTray) (defBody sTray) (defScope sTray) .none kV10 dc10 pm10 an10 cd10 ct10), sl10⟩)
    (c10 : PySem.W.codeIn K cd10 "_law_tray" = true) (k10 : PySem.W.keepIn K (.ref f10) = true)
    (a11 : PySem.W.nsIn K mainGlobals "_law_draw" = some (some (.ref f11))) (l11 : K.lookup f11 = some ⟨oc11, od11, .func (PySem.W.fnOf "_law_draw" "_law_draw" (defArgs sDraw) (defBody sDraw) (defScope sDraw) .none kV11 dc11 pm11 an11 cd11 ct11), sl11⟩)
    (c11 : PySem.W.codeIn K cd11 "_law_draw" = true) (k11 : PySem.W.keepIn K (.ref f11) = true)
    (a12 : PySem.W.nsIn K mainGlobals "_law_alike" = some (some (.ref f12))) (l12 : K.lookup f12 = some ⟨oc12, od12, .func (PySem.W.fnOf "_law_alike" "_law_alike" (defArgs sAlike) (defBody sAlike) (defScope sAlike) .none kV12 dc12 pm12 an12 cd12 ct12), sl12⟩)
    (c12 : PySem.W.codeIn K cd12 "_law_alike" = true) (k12 : PySem.W.keepIn K (.ref f12) = true)
    (a13 : PySem.W.nsIn K mainGlobals "_law_word" = some (some (.ref f13))) (l13 : K.lookup f13 = some ⟨oc13, od13, .func (PySem.W.fnOf "_law_word" "_law_word" (defArgs sWord) (defBody sWord) (defScope sWord) .none kV13 dc13 pm13 an13 cd13 ct13), sl13⟩)
    (c13 : PySem.W.codeIn K cd13 "_law_word" = true) (k13 : PySem.W.keepIn K (.ref f13) = true)
    (a14 : PySem.W.nsIn K mainGlobals "_law_what" = some (some (.ref f14))) (l14 : K.lookup f14 = some ⟨oc14, od14, .func (PySem.W.fnOf "_law_what" "_law_what" (defArgs sWhat) (defBody sWhat) (defScope sWhat) .none kV14 dc14 pm14 an14 cd14 ct14), sl14⟩)
    (c14 : PySem.W.codeIn K cd14 "_law_what" = true) (k14 : PySem.W.keepIn K (.ref f14) = true)
    (a15 : PySem.W.nsIn K mainGlobals "_law_world" = some (some (.ref f15))) (l15 : K.lookup f15 = some ⟨oc15, od15, .func (PySem.W.fnOf "_law_world" "_law_world" (defArgs sWorld) (defBody sWorld) (defScope sWorld) .none kV15 dc15 pm15 an15 cd15 ct15), sl15⟩)
    (c15 : PySem.W.codeIn K cd15 "_law_world" = true) (k15 : PySem.W.keepIn K (.ref f15) = true)
    (a16 : PySem.W.nsIn K mainGlobals "_law_most" = some (some (.ref f16))) (l16 : K.lookup f16 = some ⟨oc16, od16, .func (PySem.W.fnOf "_law_most" "_law_most" (defArgs sMost) (defBody sMost) (defScope sMost) .none kV16 dc16 pm16 an16 cd16 ct16), sl16⟩)
    (c16 : PySem.W.codeIn K cd16 "_law_most" = true) (k16 : PySem.W.keepIn K (.ref f16) = true)
    (a17 : PySem.W.nsIn K mainGlobals "_law_shown" = some (some (.ref f17))) (l17 : K.lookup f17 = some ⟨oc17, od17, .func (PySem.W.fnOf "_law_shown" "_law_shown" (defArgs sShown) (defBody sShown) (defScope sShown) .none kV17 dc17 pm17 an17 cd17 ct17), sl17⟩)
    (c17 : PySem.W.codeIn K cd17 "_law_shown" = true) (k17 : PySem.W.keepIn K (.ref f17) = true)
    (a18 : PySem.W.nsIn K mainGlobals "_law_any" = some (some (.ref f18))) (l18 : K.lookup f18 = some ⟨oc18, od18, .func (PySem.W.fnOf "_law_any" "_law_any" (defArgs sAny) (defBody sAny) (defScope sAny) .none kV18 dc18 pm18 an18 cd18 ct18), sl18⟩)
    (c18 : PySem.W.codeIn K cd18 "_law_any" = true) (k18 : PySem.W.keepIn K (.ref f18) = true)
    (a19 : PySem.W.nsIn K mainGlobals "law" = some (some (.ref f19))) (l19 : K.lookup f19 = some ⟨oc19, od19, .func (PySem.W.fnOf "law" "law" (defArgs sLaw) (defBody sLaw) (defScope sLaw) .none kV19 dc19 pm19 an19 cd19 ct19), sl19⟩)
    (c19 : PySem.W.codeIn K cd19 "law" = true) (k19 : PySem.W.keepIn K (.ref f19) = true)
    (z1 : PySem.W.nsIn K mainGlobals "len" = some none)
    (z2 : PySem.W.nsIn K mainGlobals "range" = some none)
    (z3 : PySem.W.nsIn K mainGlobals "isinstance" = some none)
    (z4 : PySem.W.nsIn K mainGlobals "bool" = some none)
    (z5 : PySem.W.nsIn K mainGlobals "int" = some none)
    (z6 : PySem.W.nsIn K mainGlobals "str" = some none)
    (z7 : PySem.W.nsIn K mainGlobals "list" = some none)
    (z8 : PySem.W.nsIn K mainGlobals "tuple" = some none)
    (z9 : PySem.W.nsIn K mainGlobals "sum" = some none)
    (z10 : PySem.W.nsIn K mainGlobals "sorted" = some none)
    (z11 : PySem.W.nsIn K mainGlobals "set" = some none)
    (z12 : PySem.W.nsIn K mainGlobals "max" = some none)
    (z13 : PySem.W.nsIn K mainGlobals "zip" = some none)
    (z14 : PySem.W.nsIn K mainGlobals "all" = some none)
    (z15 : PySem.W.nsIn K mainGlobals "any" = some none)
    (z16 : PySem.W.nsIn K mainGlobals "min" = some none)
    (z17 : PySem.W.nsIn K mainGlobals "dict" = some none)
    (z18 : PySem.W.nsIn K mainGlobals "abs" = some none)
    (z19 : PySem.W.nsIn K mainGlobals "enumerate" = some none)
    {kt : Addr} {itK : Array Value} {nK : Nat} {slK : Array (Option Value)}
    (aK : PySem.W.nsIn K mainGlobals "KINDS" = some (some (.ref kt)))
    (lK : K.lookup kt = some ⟨.type "tuple", none, .seq itK nK, slK⟩)
    (zK : itK.size ≤ sizeLine)
    (vK : Vals [.str "use", .str "lead"] itK.toList)
    : ∃ fd : FuncData, (∀ (s : Shared) (v : Value), BindsTo s fd ⟨[v], []⟩ [("script", v)]) ∧ ∀ base : Heap, K.In base → base.Ns mainGlobals mg → FnOk l.prog w K mg base CX0 7 fa fd ["script"] (spLaw K) := by
  have e := hfa.symm.trans (PySem.W.mg_of X G a19)
  cases e
  have F1 := fun_mk (st := sShow) l1 c1 k1
  have m1 := PySem.W.mg_of X G a1
  have b1 := F1.binds (ps := ["deed"]) fun _ _ _ _ _ _ us hl => match us, hl with | [_], _ => rfl
  have F2 := fun_mk (st := sRead) l2 c2 k2
  have m2 := PySem.W.mg_of X G a2
  have b2 := F2.binds (ps := ["text"]) fun _ _ _ _ _ _ us hl => match us, hl with | [_], _ => rfl
  have F3 := fun_mk (st := sHead) l3 c3 k3
  have m3 := PySem.W.mg_of X G a3
  have b3 := F3.binds (ps := ["words"]) fun _ _ _ _ _ _ us hl => match us, hl with | [_], _ => rfl
  have F4 := fun_mk (st := sIsWhat) l4 c4 k4
  have m4 := PySem.W.mg_of X G a4
  have b4 := F4.binds (ps := ["words"]) fun _ _ _ _ _ _ us hl => match us, hl with | [_], _ => rfl
  have F5 := fun_mk (st := sIsName) l5 c5 k5
  have m5 := PySem.W.mg_of X G a5
  have b5 := F5.binds (ps := ["word"]) fun _ _ _ _ _ _ us hl => match us, hl with | [_], _ => rfl
  have F6 := fun_mk (st := sIsNum) l6 c6 k6
  have m6 := PySem.W.mg_of X G a6
  have b6 := F6.binds (ps := ["word"]) fun _ _ _ _ _ _ us hl => match us, hl with | [_], _ => rfl
  have F7 := fun_mk (st := sAre) l7 c7 k7
  have m7 := PySem.W.mg_of X G a7
  have b7 := F7.binds (ps := ["word"]) fun _ _ _ _ _ _ us hl => match us, hl with | [_], _ => rfl
  have F8 := fun_mk (st := sNums) l8 c8 k8
  have m8 := PySem.W.mg_of X G a8
  have b8 := F8.binds (ps := ["word"]) fun _ _ _ _ _ _ us hl => match us, hl with | [_], _ => rfl
  have F9 := fun_mk (st := sWhatOf) l9 c9 k9
  have m9 := PySem.W.mg_of X G a9
  have b9 := F9.binds (ps := ["words"]) fun _ _ _ _ _ _ us hl => match us, hl with | [_], _ => rfl
  have F10 := fun_mk (st := sTray) l10 c10 k10
  have m10 := PySem.W.mg_of X G a10
  have b10 := F10.binds (ps := ["script"]) fun _ _ _ _ _ _ us hl => match us, hl with | [_], _ => rfl
  have F11 := fun_mk (st := sDraw) l11 c11 k11
  have m11 := PySem.W.mg_of X G a11
  have b11 := F11.binds (ps := ["tray", "many"]) fun _ _ _ _ _ _ us hl => match us, hl with | [_, _], _ => rfl
  have F12 := fun_mk (st := sAlike) l12 c12 k12
  have m12 := PySem.W.mg_of X G a12
  have b12 := F12.binds (ps := ["found", "due"]) fun _ _ _ _ _ _ us hl => match us, hl with | [_, _], _ => rfl
  have F13 := fun_mk (st := sWord) l13 c13 k13
  have m13 := PySem.W.mg_of X G a13
  have b13 := F13.binds (ps := ["tray"]) fun _ _ _ _ _ _ us hl => match us, hl with | [_], _ => rfl
  have F14 := fun_mk (st := sWhat) l14 c14 k14
  have m14 := PySem.W.mg_of X G a14
  have b14 := F14.binds (ps := ["tray", "who", "many", "mights"]) fun _ _ _ _ _ _ us hl => match us, hl with | [_, _, _, _], _ => rfl
  have F15 := fun_mk (st := sWorld) l15 c15 k15
  have m15 := PySem.W.mg_of X G a15
  have b15 := F15.binds (ps := ["tray", "most"]) fun _ _ _ _ _ _ us hl => match us, hl with | [_, _], _ => rfl
  have F16 := fun_mk (st := sMost) l16 c16 k16
  have m16 := PySem.W.mg_of X G a16
  have b16 := F16.binds (ps := ["tray"]) fun _ _ _ _ _ _ us hl => match us, hl with | [_], _ => rfl
  have F17 := fun_mk (st := sShown) l17 c17 k17
  have m17 := PySem.W.mg_of X G a17
  have b17 := F17.binds (ps := ["act"]) fun _ _ _ _ _ _ us hl => match us, hl with | [_], _ => rfl
  have F18 := fun_mk (st := sAny) l18 c18 k18
  have m18 := PySem.W.mg_of X G a18
  have b18 := F18.binds (ps := ["tray"]) fun _ _ _ _ _ _ us hl => match us, hl with | [_], _ => rfl
  have F19 := fun_mk (st := sLaw) l19 c19 k19
  have m19 := PySem.W.mg_of X G a19
  have y1 := PySem.W.mg_none_of X G z1
  have y2 := PySem.W.mg_none_of X G z2
  have y3 := PySem.W.mg_none_of X G z3
  have y4 := PySem.W.mg_none_of X G z4
  have y5 := PySem.W.mg_none_of X G z5
  have y6 := PySem.W.mg_none_of X G z6
  have y7 := PySem.W.mg_none_of X G z7
  have y8 := PySem.W.mg_none_of X G z8
  have y9 := PySem.W.mg_none_of X G z9
  have y10 := PySem.W.mg_none_of X G z10
  have y11 := PySem.W.mg_none_of X G z11
  have y12 := PySem.W.mg_none_of X G z12
  have y13 := PySem.W.mg_none_of X G z13
  have y14 := PySem.W.mg_none_of X G z14
  have y15 := PySem.W.mg_none_of X G z15
  have y16 := PySem.W.mg_none_of X G z16
  have y17 := PySem.W.mg_none_of X G z17
  have y18 := PySem.W.mg_none_of X G z18
  have y19 := PySem.W.mg_none_of X G z19
  refine ⟨PySem.W.fnOf "law" "law" (defArgs sLaw) (defBody sLaw) (defScope sLaw) .none kV19 dc19 pm19 an19 cd19 ct19, fun s v => .of_eq rfl, fun base _ _ => ?_⟩
  have B : Blt2 mg := ⟨⟨y1, y2, y3, y4, y5, y6, y7, y8, y9, y10, y11, y12, y13⟩, y14, y15, y16, y17, y18, y19⟩
  have KD : Kinds K mg kt := ⟨PySem.W.mg_of X G aK, fun H => .inr ⟨_, _, _, lK, rfl, rfl, zK, vK⟩⟩
  have CS : Cal l.prog w K mg base 6 "show_deed" ["deed"] spShown f1 _ := ⟨ok_show F1 B.toBlt, m1, k1, b1⟩
  have NN : Cal l.prog w K mg base 1 "_is_number" ["word"] spIsNum f6 _ := ⟨ok_isnum F6 B, m6, k6, b6⟩
  have NM : Cal l.prog w K mg base 1 "_is_name" ["word"] spIsName f5 _ := ⟨ok_isname F5, m5, k5, b5⟩
  have AR : Cal l.prog w K mg base 2 "_are_numbers" ["word"] spAre f7 _ := ⟨ok_are F7 NN B, m7, k7, b7⟩
  have HD : Cal l.prog w K mg base 5 "_is_head" ["words"] (spHead K) f3 _ := ⟨(ok_head F3 AR B).mono (by decide), m3, k3, b3⟩
  have IW : Cal l.prog w K mg base 5 "_is_what" ["words"] (spIsWhat K) f4 _ := ⟨(ok_iswhat F4 NN NM KD B).mono (by decide), m4, k4, b4⟩
  have NU : Cal l.prog w K mg base 5 "_numbers" ["word"] (spNums K) f8 _ := ⟨ok_nums F8 B, m8, k8, b8⟩
  have WO : Cal l.prog w K mg base 5 "_what" ["words"] (spWhatOf K) f9 _ := ⟨ok_whatof F9 B, m9, k9, b9⟩
  have RD : Cal l.prog w K mg base 6 "read_deed" ["text"] spRead f2 _ := ⟨ok_read F2 HD IW NU WO, m2, k2, b2⟩
  have KR := kbn_of (ks := ["text"]) (ps := ["text"]) (g := kwsOnly) (gV := kwsOnly) F2 0 (fun _ _ _ _ _ _ us ws h1 h2 => match us, ws, h1, h2 with | [], [_], _, _ => rfl) kwsOnly_rel
  have CT : Cal l.prog w K mg base 6 "_law_tray" ["script"] (spTray K) f10 _ := ⟨ok_tray F10 B.max, m10, k10, b10⟩
  have D1 : DrawC l.prog w K mg base 1 f11 _ := ⟨ok_draw F11, m11, k11, b11⟩
  have D2 : DrawC l.prog w K mg base 2 f11 _ := ⟨ok_draw F11, m11, k11, b11⟩
  have D3 : DrawC l.prog w K mg base 3 f11 _ := ⟨ok_draw F11, m11, k11, b11⟩
  have D5 : DrawC l.prog w K mg base 5 f11 _ := ⟨ok_draw F11, m11, k11, b11⟩
  have A0 : Cal l.prog w K mg base 0 "_law_alike" ["found", "due"] (spAlike 0) f12 _ := ⟨alike0, m12, k12, b12⟩
  have A1 : Cal l.prog w K mg base 1 "_law_alike" ["found", "due"] (spAlike 1) f12 _ := ⟨ok_alike F12 A0 B.toBlt, m12, k12, b12⟩
  have A2 : Cal l.prog w K mg base 2 "_law_alike" ["found", "due"] (spAlike 2) f12 _ := ⟨ok_alike F12 A1 B.toBlt, m12, k12, b12⟩
  have A3 : Cal l.prog w K mg base 3 "_law_alike" ["found", "due"] (spAlike 3) f12 _ := ⟨ok_alike F12 A2 B.toBlt, m12, k12, b12⟩
  have W2 : Cal l.prog w K mg base 2 "_law_word" ["tray"] spWord f13 _ := ⟨ok_word F13 D1 B.range, m13, k13, b13⟩
  have T3 : Cal l.prog w K mg base 3 "_law_what" ["tray", "who", "many", "mights"] spWhat f14 _ := ⟨ok_what F14 D2 W2 B.len, m14, k14, b14⟩
  have W3 := W2.mono (show 2 ≤ 3 by decide)
  have V4 : Cal l.prog w K mg base 6 "_law_world" ["tray", "most"] spWorld f15 _ := ⟨(ok_world F15 D3 W3 T3 B.range B.max B.zip B.tuple).mono (by decide), m15, k15, b15⟩
  have Mo : Cal l.prog w K mg base 6 "_law_most" ["tray"] spMost f16 _ := ⟨ok_most F16 D5, m16, k16, b16⟩
  have SH : Cal l.prog w K mg base 6 "_law_shown" ["act"] spShown f17 _ := ⟨ok_shown F17 B.toBlt, m17, k17, b17⟩
  have AN : Cal l.prog w K mg base 6 "_law_any" ["tray"] spAny f18 _ := ⟨ok_any F18 D5 (W2.mono (by decide)) B.toBlt, m18, k18, b18⟩
  exact ok_law F19 CT Mo V4 CS SH AN RD KR (A3.mono (by decide)) B.toBlt

end FR
open PySem PySem.W PyProof.Rows
set_option maxRecDepth 100000 in
set_option maxHeartbeats 0 in
theorem PySem.Challenge.cw_firmroll_k51_deeds_read_holds : PySem.Challenge.rw_firmroll_k51_deeds_read.Holds := by
  w_on; o_law; k_head; (case hw => w_witness2)
  k_fill
  refine L2.walk_of (l := PySem.Challenge.rw_firmroll_k51_deeds_read) (n := 63) (k := 7) (x := "script") (CX := fun _ => L2.CX0) (sp := fun w => FR.spLaw _) rfl (by decide) rfl ⟨rfl, by decide, by decide⟩ (fun w h Y => PySem.W.kIn_of Y) ?F (fun _ _ a ns hl _ hS => ⟨a, ns, rfl, hS, hl, fun _ => rfl⟩) (fun _ _ _ _ _ h => h)
  case F =>
    intro w mg fa h KX G hmg
    refine' FR.all_mk KX G hmg ?a1 ?l1 ?c1 ?k1 ?a2 ?l2 ?c2 ?k2 ?a3 ?l3 ?c3 ?k3 ?a4 ?l4 ?c4 ?k4 ?a5 ?l5 ?c5 ?k5 ?a6 ?l6 ?c6 ?k6 ?a7 ?l7 ?c7 ?k7 ?a8 ?l8 ?c8 ?k8 ?a9 ?l9 ?c9 ?k9 ?a10 ?l10 ?c10 ?k10 ?a11 ?l11 ?c11 ?k11 ?a12 ?l12 ?c12 ?k12 ?a13 ?l13 ?c13 ?k13 ?a14 ?l14 ?c14 ?k14 ?a15 ?l15 ?c15 ?k15 ?a16 ?l16 ?c16 ?k16 ?a17 ?l17 ?c17 ?k17 ?a18 ?l18 ?c18 ?k18 ?a19 ?l19 ?c19 ?k19 ?z1 ?z2 ?z3 ?z4 ?z5 ?z6 ?z7 ?z8 ?z9 ?z10 ?z11 ?z12 ?z13 ?z14 ?z15 ?z16 ?z17 ?z18 ?z19 ?aK ?lK ?zK ?vK
    (case a1 => k_is)
    (case l1 => k_is)
    (case c1 => k_is)
    (case k1 => k_is)
    (case a2 => k_is)
    (case l2 => k_is)
    (case c2 => k_is)
    (case k2 => k_is)
    (case a3 => k_is)
    (case l3 => k_is)
    (case c3 => k_is)
    (case k3 => k_is)
    (case a4 => k_is)
    (case l4 => k_is)
    (case c4 => k_is)
    (case k4 => k_is)
    (case a5 => k_is)
    (case l5 => k_is)
    (case c5 => k_is)
    (case k5 => k_is)
    (case a6 => k_is)
    (case l6 => k_is)
    (case c6 => k_is)
    (case k6 => k_is)
    (case a7 => k_is)
    (case l7 => k_is)
    (case c7 => k_is)
    (case k7 => k_is)
    (case a8 => k_is)
    (case l8 => k_is)
    (case c8 => k_is)
    (case k8 => k_is)
    (case a9 => k_is)
    (case l9 => k_is)
    (case c9 => k_is)
    (case k9 => k_is)
    (case a10 => k_is)
    (case l10 => k_is)
    (case c10 => k_is)
    (case k10 => k_is)
    (case a11 => k_is)
    (case l11 => k_is)
    (case c11 => k_is)
    (case k11 => k_is)
    (case a12 => k_is)
    (case l12 => k_is)
    (case c12 => k_is)
    (case k12 => k_is)
    (case a13 => k_is)
    (case l13 => k_is)
    (case c13 => k_is)
    (case k13 => k_is)
    (case a14 => k_is)
    (case l14 => k_is)
    (case c14 => k_is)
    (case k14 => k_is)
    (case a15 => k_is)
    (case l15 => k_is)
    (case c15 => k_is)
    (case k15 => k_is)
    (case a16 => k_is)
    (case l16 => k_is)
    (case c16 => k_is)
    (case k16 => k_is)
    (case a17 => k_is)
    (case l17 => k_is)
    (case c17 => k_is)
    (case k17 => k_is)
    (case a18 => k_is)
    (case l18 => k_is)
    (case c18 => k_is)
    (case k18 => k_is)
    (case a19 => k_is)
    (case l19 => k_is)
    (case c19 => k_is)
    (case k19 => k_is)
    (case z1 => k_is)
    (case z2 => k_is)
    (case z3 => k_is)
    (case z4 => k_is)
    (case z5 => k_is)
    (case z6 => k_is)
    (case z7 => k_is)
    (case z8 => k_is)
    (case z9 => k_is)
    (case z10 => k_is)
    (case z11 => k_is)
    (case z12 => k_is)
    (case z13 => k_is)
    (case z14 => k_is)
    (case z15 => k_is)
    (case z16 => k_is)
    (case z17 => k_is)
    (case z18 => k_is)
    (case z19 => k_is)
    (case aK => k_is)
    (case lK => k_is)
    (case zK => show 2 ≤ sizeLine; decide)
    (case vK => exact .cons ⟨_, rfl⟩ (.cons ⟨_, rfl⟩ .nil))

