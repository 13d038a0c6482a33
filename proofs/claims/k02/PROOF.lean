import PyProof.Rows.All
import Wide.All
import OpenK.AllK
import Wide.FinOn
import HandS.ForMost
import HandS.ForExc
import HandS.ExcInit
import HandS.ExcField
import HandS.FStr
import HandS.CallLocal
import HandS.SortKw
import HandS.StrMore
import HandS.Flow
import HandS.CallSlots
import HandS.TupAny
import HandS.ClsMeth
import HandS.Walk
import KE.DataMinMax
import KE.GoesEnumKw
import KE.IntTextLaws
import HandS.Codes
import HandS.Defaults
import KE.DatumOrd
import PySem.Challenge.RW_sendstead_k02_texts_too_long
set_option Elab.async false
set_option linter.all false
set_option maxRecDepth 100000
set_option maxHeartbeats 4000000
section
/-! the mathematics of texts, rows and words: plain lists of codes -/
set_option autoImplicit false
namespace SS
abbrev T := List Nat
def BR : T := [40, 41, 123, 125, 91, 93, 124]
def isSep (c : Nat) : Bool := decide (c = 32) || decide (c ∈ BR)
def flush (cur : T) (k : Nat) : List (T × Nat) := if cur = [] then [] else [(cur, k - cur.length)]
/-- the words of what is left of a row, cur being read ahead of column k -/
def rw_ : T → Nat → T → List (T × Nat)
  | cur, k, [] => flush cur k
  | cur, k, c :: r => if isSep c = true then flush cur k ++ (if c = 32 then [] else [([c], k)]) ++ rw_ [] (k + 1) r else rw_ (cur ++ [c]) (k + 1) r
def rowWords (l : T) : List (T × Nat) := rw_ [] 1 l

def SMALL : T := (List.range 26).map (· + 97)
def CAPS : T := (List.range 26).map (· + 65)
def FIGS : T := (List.range 10).map (· + 48)
def TEXTS : T := SMALL ++ CAPS ++ FIGS ++ [95]
def hasOnly (w s : T) : Bool := w.all fun c => decide (c ∈ s)
def isName (w first others : T) : Bool := decide (1 ≤ w.length ∧ w.length ≤ 12) && (decide ((w.getD 0 0) ∈ first) && hasOnly w others)
def isSmall (w : T) : Bool := isName w SMALL (SMALL ++ FIGS)
def isKindName (w : T) : Bool := isName w CAPS (SMALL ++ CAPS ++ FIGS)
def isText (w : T) : Bool := decide (w.length ≤ 40) && hasOnly w TEXTS

/-- one word that is none, or the row too long: the first column -/
def cols (isW : T → Bool) (p : List (T × Nat)) (n : Nat) : List Nat := (p.filter fun q => !isW q.1).map (·.2) ++ (if n > 120 then [121] else [])
def minOf : List Nat → Option Nat
  | [] => none
  | a :: r => match minOf r with
    | none => some a
    | some b => some (if b < a then b else a)
theorem minOf_none : ∀ {l : List Nat}, minOf l = none ↔ l = []
  | [] => by simp [minOf]
  | a :: r => by
    simp only [minOf]
    split <;> simp
theorem minOf_some : ∀ {l : List Nat} {m : Nat}, minOf l = some m ↔ m ∈ l ∧ ∀ y ∈ l, m ≤ y
  | [], m => by simp [minOf]
  | a :: r, m => by
    simp only [minOf]
    cases e : minOf r with
    | none =>
      have e' := minOf_none.mp e
      subst e'
      simp
      constructor
      · intro h; subst h; simp
      · intro h; exact h.1.symm
    | some b =>
      have ih := (minOf_some (l := r) (m := b)).mp e
      simp only [Option.some.injEq]
      constructor
      · intro h
        split at h
        · subst h
          refine ⟨List.mem_cons_of_mem _ ih.1, fun y hy => ?_⟩
          rcases List.mem_cons.mp hy with h | h
          · subst h; omega
          · exact ih.2 y h
        · subst h
          refine ⟨List.mem_cons_self, fun y hy => ?_⟩
          rcases List.mem_cons.mp hy with h | h
          · omega
          · have := ih.2 y h; omega
      · rintro ⟨h1, h2⟩
        have ha := h2 a List.mem_cons_self
        have hb := h2 b (List.mem_cons_of_mem _ ih.1)
        rcases List.mem_cons.mp h1 with h | h
        · subst h
          split
          · omega
          · rfl
        · have := ih.2 m h
          split <;> omega
def wrongCol (isW : T → Bool) (p : List (T × Nat)) (n : Nat) : Option Nat := minOf (cols isW p n)

abbrev W := T × Nat × Nat
def lay (r : Nat) (p : List (T × Nat)) : List W := p.map fun q => (q.1, r, q.2)
def scanGo (isW : T → Bool) : Nat → List T → List W × Option (Nat × Nat)
  | _, [] => ([], none)
  | r, l :: ls => match wrongCol isW (rowWords l) l.length with
    | some c => (lay r ((rowWords l).filter fun q => decide (q.2 < c)), some (r, c))
    | none => (lay r (rowWords l) ++ (scanGo isW (r + 1) ls).1, (scanGo isW (r + 1) ls).2)
def scan (isW : T → Bool) (rows : List T) : List W × Option (Nat × Nat) :=
  match (scanGo isW 1 (rows.take 300)).2 with
  | some p => ((scanGo isW 1 (rows.take 300)).1, some p)
  | none => ((scanGo isW 1 (rows.take 300)).1, if rows.length > 300 then some (301, 1) else none)

/-! ### rows: facts -/
theorem flush_nil (k : Nat) : flush [] k = [] := rfl
theorem rw_sep {cur : T} {k c : Nat} {r : T} (h : isSep c = true) : rw_ cur k (c :: r) = flush cur k ++ (if c = 32 then [] else [([c], k)]) ++ rw_ [] (k + 1) r := by
  rw [rw_, if_pos h]
theorem rw_on {cur : T} {k c : Nat} {r : T} (h : isSep c = false) : rw_ cur k (c :: r) = rw_ (cur ++ [c]) (k + 1) r := by
  rw [rw_, if_neg (by rw [h]; decide)]
theorem rw_blank {cur : T} {k : Nat} {r : T} : rw_ cur k (32 :: r) = flush cur k ++ rw_ [] (k + 1) r := by
  rw [rw_sep (by decide)]
  simp
theorem rw_blanks : ∀ (n k : Nat) (r : T), rw_ [] k (List.replicate n 32 ++ r) = rw_ [] (k + n) r
  | 0, k, r => rfl
  | n + 1, k, r => by
    rw [List.replicate_succ, List.cons_append, rw_blank, flush_nil, List.nil_append, rw_blanks n (k + 1) r]
    congr 1
    omega
theorem rw_tail (cur : T) (k n : Nat) : rw_ cur k (List.replicate n 32) = flush cur k := by
  cases n with
  | zero => rfl
  | succ n =>
    rw [List.replicate_succ, rw_blank]
    have := rw_blanks n (k + 1) []
    rw [List.append_nil] at this
    rw [this]
    simp [rw_, flush]
/-- a plain word, then what ends it -/
theorem rw_word : ∀ (w cur : T) (k : Nat) (r : T), (w.all fun c => !isSep c) = true → rw_ cur k (w ++ r) = rw_ (cur ++ w) (k + w.length) r
  | [], cur, k, r, _ => by simp
  | c :: w, cur, k, r, h => by
    rw [List.all_cons, Bool.and_eq_true] at h
    rw [List.cons_append, rw_on (by simpa using h.1), rw_word w _ _ _ h.2, List.append_assoc, List.singleton_append, List.length_cons]
    congr 1
    omega
theorem flush_word {w : T} {k : Nat} (h : w ≠ []) : flush w (k + w.length) = [(w, k)] := by
  unfold flush
  rw [if_neg h]
  congr 2
  omega
theorem rw_word1 {w : T} {k : Nat} {r : T} (h : w ≠ []) (hs : (w.all fun c => !isSep c) = true) : rw_ [] k (w ++ 32 :: r) = (w, k) :: rw_ [] (k + w.length + 1) r := by
  rw [rw_word w [] k _ hs, List.nil_append, rw_blank, flush_word h]
  rfl
theorem rw_wordEnd {w : T} {k n : Nat} (h : w ≠ []) (hs : (w.all fun c => !isSep c) = true) : rw_ [] k (w ++ List.replicate n 32) = [(w, k)] := by
  rw [rw_word w [] k _ hs, List.nil_append, rw_tail, flush_word h]
theorem rw_ge : ∀ (r cur : T) (k m : Nat), m + cur.length ≤ k → ∀ q ∈ rw_ cur k r, m ≤ q.2
  | [], cur, k, m, h, q, hq => by
    rw [rw_] at hq
    unfold flush at hq
    split at hq
    · simp at hq
    · simp at hq; subst hq; show m ≤ k - cur.length; omega
  | c :: r, cur, k, m, h, q, hq => by
    rw [rw_] at hq
    split at hq
    · rcases List.mem_append.mp hq with hq | hq
      · rcases List.mem_append.mp hq with hq | hq
        · unfold flush at hq
          split at hq
          · simp at hq
          · simp at hq; subst hq; show m ≤ k - cur.length; omega
        · split at hq
          · simp at hq
          · simp at hq; subst hq; show m ≤ k; omega
      · exact rw_ge r [] (k + 1) m (by simp; omega) q hq
    · exact rw_ge r (cur ++ [c]) (k + 1) m (by simp; omega) q hq
/-- the loop over a row, sign by sign -/
def sl (L : T) (a b : Nat) : T := (L.drop a).take (b - a)
theorem sl_snoc {L : T} {a b c : Nat} (h : a ≤ b) (hc : L[b]? = some c) : sl L a (b + 1) = sl L a b ++ [c] := by
  unfold sl
  have e : b + 1 - a = (b - a) + 1 := by omega
  rw [e, List.take_add_one, List.getElem?_drop]
  have e2 : a + (b - a) = b := by omega
  rw [e2, hc]
  rfl
theorem sl_len {L : T} {a b : Nat} (hb : b ≤ L.length) : (sl L a b).length = b - a := by
  unfold sl
  rw [List.length_take, List.length_drop]
  omega
theorem sl_self (L : T) (a : Nat) : sl L a a = [] := by simp [sl]
theorem sl_nil {L : T} {a b : Nat} (hb : b ≤ L.length) (h : ¬ a < b) : sl L a b = [] := by
  have := sl_len (a := a) hb
  exact List.eq_nil_of_length_eq_zero (by omega)
theorem drop_at {L : T} {b c : Nat} (hc : L[b]? = some c) : L.drop b = c :: L.drop (b + 1) := by
  obtain ⟨h, e⟩ := List.getElem?_eq_some_iff.mp hc
  rw [List.drop_eq_getElem_cons h, e]
/-- a turn at a sign that ends no word -/
theorem turn_on {L : T} {a b c : Nat} {ps : List (T × Nat)} (h : a ≤ b) (hc : L[b]? = some c) (hs : isSep c = false)
    (I : ps ++ rw_ (sl L a b) (b + 1) (L.drop b) = rowWords L) : ps ++ rw_ (sl L a (b + 1)) (b + 1 + 1) (L.drop (b + 1)) = rowWords L := by
  rw [drop_at hc, rw_on hs] at I
  rw [sl_snoc h hc]
  exact I
/-- a turn at a sign that ends one -/
theorem turn_sep {L : T} {a b c : Nat} {ps : List (T × Nat)} (h : a ≤ b) (hc : L[b]? = some c) (hs : isSep c = true)
    (I : ps ++ rw_ (sl L a b) (b + 1) (L.drop b) = rowWords L) :
    (ps ++ (if a < b then [(sl L a b, a + 1)] else [])) ++ (if c = 32 then [] else [([c], b + 1)]) ++ rw_ (sl L (b + 1) (b + 1)) (b + 1 + 1) (L.drop (b + 1)) = rowWords L := by
  rw [drop_at hc, rw_sep hs] at I
  rw [sl_self, ← I]
  have hb : b < L.length := (List.getElem?_eq_some_iff.mp hc).1
  have e : flush (sl L a b) (b + 1) = if a < b then [(sl L a b, a + 1)] else [] := by
    unfold flush
    by_cases q : a < b
    · have n : sl L a b ≠ [] := fun z => by
        have := sl_len (L := L) (a := a) (b := b) (by omega)
        rw [z] at this
        simp at this
        omega
      rw [if_neg n, if_pos q, sl_len (by omega)]
      congr 2
      omega
    · rw [if_neg q, if_pos (sl_nil (by omega) q)]
  rw [e]
  simp only [List.append_assoc]
/-- the last turn, at the blank behind the row -/
theorem turn_last {L : T} {a : Nat} {ps : List (T × Nat)} (h : a ≤ L.length)
    (I : ps ++ rw_ (sl L a L.length) (L.length + 1) (L.drop L.length) = rowWords L) :
    ps ++ (if a < L.length then [(sl L a L.length, a + 1)] else []) = rowWords L := by
  rw [List.drop_length] at I
  rw [← I, rw_]
  have e : flush (sl L a L.length) (L.length + 1) = if a < L.length then [(sl L a L.length, a + 1)] else [] := by
    unfold flush
    by_cases q : a < L.length
    · have n : sl L a L.length ≠ [] := fun z => by
        have := sl_len (L := L) (a := a) (b := L.length) (by omega)
        rw [z] at this
        simp at this
        omega
      rw [if_neg n, if_pos q, sl_len (by omega)]
      congr 2
      omega
    · rw [if_neg q, if_pos (sl_nil (by omega) q)]
  rw [e]
theorem rw_len : ∀ (r cur : T) (k : Nat), (rw_ cur k r).length ≤ (flush cur k).length + 2 * r.length
  | [], cur, k => by simp [rw_]
  | c :: r, cur, k => by
    rw [rw_]
    split
    · have h := rw_len r [] (k + 1)
      rw [flush_nil, List.length_nil] at h
      rw [List.length_append, List.length_append]
      have h2 : (if c = 32 then ([] : List (T × Nat)) else [([c], k)]).length ≤ 1 := by split <;> simp
      simp only [List.length_cons]
      omega
    · have h := rw_len r (cur ++ [c]) (k + 1)
      have h1 : (flush (cur ++ [c]) (k + 1)).length ≤ 1 := by unfold flush; split <;> simp
      simp only [List.length_cons]
      omega
theorem rowWords_len (l : T) : (rowWords l).length ≤ 2 * l.length := by
  have h := rw_len l [] 1
  rw [flush_nil, List.length_nil, Nat.zero_add] at h
  exact h

/-! ### statements, rows of the law -/
abbrev tDo : T := [100, 111]
abbrev tSay : T := [115, 97, 121]
abbrev tRet : T := [114, 101, 116, 117, 114, 110]
abbrev t1 : T := [49]
abbrev tQx : T := [39, 120]
abbrev tQabc : T := [39, 97, 98, 99]
abbrev tSelf : T := [115, 101, 108, 102]
abbrev tNone : T := [110, 111, 110, 101]
abbrev tX : T := [120]
abbrev tSet : T := [58, 61]
abbrev tRb : T := [93]
abbrev tEnd : T := [101, 110, 100]
/-- the es that stand in these statements -/
def Leaf (e : T) : Prop := e = t1 ∨ e = tQx ∨ e = tQabc ∨ e = tSelf ∨ e = tNone
def Plain (a : T) : Prop := a = tDo ∨ a = tSay ∨ a = tRet
inductive Stms : List T → Prop
  | nil : Stms []
  | plain {a e : T} {r : List T} : Plain a → Leaf e → Stms r → Stms (a :: e :: r)
  | set {e : T} {r : List T} : Leaf e → Stms r → Stms (tX :: tSet :: e :: r)
theorem Stms.append : ∀ {a b : List T}, Stms a → Stms b → Stms (a ++ b)
  | _, _, .nil, h => h
  | _, _, .plain p q r, h => .plain p q (r.append h)
  | _, _, .set q r, h => .set q (r.append h)
abbrev Out := List (T × Nat) × Option Nat
def outOf (isW : T → Bool) (l : T) : Out := match wrongCol isW (rowWords l) l.length with
  | some c => ((rowWords l).filter (fun q => decide (q.2 < c)), some c)
  | none => (rowWords l, none)
def scanO : Nat → List Out → List W × Option (Nat × Nat)
  | _, [] => ([], none)
  | r, o :: os => match o.2 with
    | some c => (lay r o.1, some (r, c))
    | none => (lay r o.1 ++ (scanO (r + 1) os).1, (scanO (r + 1) os).2)
theorem scanO_eq (isW : T → Bool) : ∀ (ls : List T) (r : Nat), scanGo isW r ls = scanO r (ls.map (outOf isW))
  | [], r => rfl
  | l :: ls, r => by
    rw [List.map_cons, scanGo, scanO, scanO_eq isW ls (r + 1)]
    unfold outOf
    cases wrongCol isW (rowWords l) l.length <;> rfl
abbrev texts (o : List (T × Nat)) : List T := o.map (·.1)
theorem lay_texts (r : Nat) (p : List (T × Nat)) : (lay r p).map (·.1) = texts p := by
  unfold lay texts
  rw [List.map_map]
  rfl
/-- what is known of the row with number ρ: A the long one's, B the odd one's -/
def InfoAt (A B aw bk : Nat) (ρ : Nat) (o : Out) : Prop :=
  if ρ = A then Stms (texts o.1) ∧ o.2 = (if aw = 1 then some 121 else none)
  else if ρ = B ∧ bk = 1 then o = ([(tDo, 1), (tRb, 4)], none)
  else if ρ = B ∧ bk = 2 then o = ([], some 1)
  else Stms (texts o.1) ∧ o.2 = none
def sgn (A B aw bk : Nat) (r n : Nat) : Option (Nat × Nat) :=
  if (aw = 1 ∧ r ≤ A ∧ A < r + n) ∧ ((bk = 2 ∧ r ≤ B ∧ B < r + n) → A < B) then some (A, 121)
  else if bk = 2 ∧ r ≤ B ∧ B < r + n then some (B, 1) else none
def wrd (A B aw bk : Nat) (r n : Nat) : Option (Nat × Nat) :=
  if bk = 1 ∧ r ≤ B ∧ B < r + n ∧ ((aw = 1 ∧ r ≤ A) → B < A) then some (B, 4) else none
/-- words that are statements, up to a do ] at a place, if there is one -/
def Body (w : List W) : Option (Nat × Nat) → Prop
  | none => Stms (w.map (·.1))
  | some p => ∃ S q rest, w = S ++ (tDo, q) :: (tRb, p) :: rest ∧ Stms (S.map (·.1))
theorem Body.ahead {a w : List W} {o : Option (Nat × Nat)} (h : Stms (a.map (·.1))) (b : Body w o) : Body (a ++ w) o := by
  cases o with
  | none =>
    show Stms _
    rw [List.map_append]
    exact h.append b
  | some p =>
    obtain ⟨S, q, rest, e, s⟩ := b
    refine ⟨a ++ S, q, rest, by rw [e, List.append_assoc], ?_⟩
    rw [List.map_append]
    exact h.append s
theorem scan_outs {A B aw bk : Nat} (hAB : A ≠ B) : ∀ (os : List Out) (r : Nat), (∀ i o, os[i]? = some o → InfoAt A B aw bk (r + i) o) →
    (scanO r os).2 = sgn A B aw bk r os.length ∧ Body (scanO r os).1 (wrd A B aw bk r os.length)
  | [], r, _ => by
    refine ⟨?_, ?_⟩
    · unfold sgn
      rw [if_neg (by simp only [List.length_nil]; omega), if_neg (by simp only [List.length_nil]; omega)]
      rfl
    · unfold wrd
      rw [if_neg (by simp only [List.length_nil]; omega)]
      exact .nil
  | o :: os, r, h => by
    have h0 := h 0 o rfl
    rw [Nat.add_zero] at h0
    have ih := scan_outs (aw := aw) (bk := bk) hAB os (r + 1) (fun i u e => by
      have := h (i + 1) u (by simpa using e)
      rw [show r + 1 + i = r + (i + 1) by omega]
      exact this)
    have stop : ∀ c, o.2 = some c → scanO r (o :: os) = (lay r o.1, some (r, c)) := fun c e => by rw [scanO, e]
    have on : o.2 = none → scanO r (o :: os) = (lay r o.1 ++ (scanO (r + 1) os).1, (scanO (r + 1) os).2) := fun e => by rw [scanO, e]
    have onS : o.2 = none → sgn A B aw bk r (os.length + 1) = sgn A B aw bk (r + 1) os.length → (scanO r (o :: os)).2 = sgn A B aw bk r (os.length + 1) := fun e z => by
      rw [on e, z]
      exact ih.1
    have onW : o.2 = none → Stms (texts o.1) → wrd A B aw bk r (os.length + 1) = wrd A B aw bk (r + 1) os.length → Body (scanO r (o :: os)).1 (wrd A B aw bk r (os.length + 1)) := fun e st z => by
      rw [on e, z]
      exact Body.ahead (by rw [lay_texts]; exact st) ih.2
    rw [List.length_cons]
    clear h
    unfold InfoAt at h0
    by_cases a : r = A
    · rw [if_pos a] at h0
      obtain ⟨h1, h2⟩ := h0
      by_cases w1 : aw = 1
      · rw [if_pos w1] at h2
        rw [stop 121 h2]
        refine ⟨?_, ?_⟩
        · unfold sgn
          rw [if_pos (by omega), a]
        · unfold wrd
          rw [if_neg (by omega)]
          show Stms _
          rw [lay_texts]
          exact h1
      · rw [if_neg w1] at h2
        refine ⟨onS h2 ?_, onW h2 h1 ?_⟩
        · unfold sgn
          repeat' split
          all_goals first | rfl | (exfalso; omega)
        · unfold wrd
          repeat' split
          all_goals first | rfl | (exfalso; omega)
    · rw [if_neg a] at h0
      by_cases b1 : r = B ∧ bk = 1
      · rw [if_pos b1] at h0
        have hn : o.2 = none := by rw [h0]
        refine ⟨onS hn ?_, ?_⟩
        · unfold sgn
          repeat' split
          all_goals first | rfl | (exfalso; omega)
        · rw [on hn]
          unfold wrd
          rw [if_pos (by omega)]
          refine ⟨[], (r, 1), (scanO (r + 1) os).1, ?_, .nil⟩
          rw [h0, ← b1.1]
          rfl
      · rw [if_neg b1] at h0
        by_cases b2 : r = B ∧ bk = 2
        · rw [if_pos b2] at h0
          rw [stop 1 (by rw [h0])]
          refine ⟨?_, ?_⟩
          · unfold sgn
            rw [if_neg (by omega), if_pos (by omega), b2.1]
          · unfold wrd
            rw [if_neg (by omega), h0]
            exact .nil
        · rw [if_neg b2] at h0
          refine ⟨onS h0.2 ?_, onW h0.2 h0.1 ?_⟩
          · unfold sgn
            repeat' split
            all_goals first | rfl | (exfalso; omega)
          · unfold wrd
            repeat' split
            all_goals first | rfl | (exfalso; omega)
end SS
end
namespace PySem.W
open PySem PyProof.Rows
section
variable {M : Model} {prog : Program} {w : World} {A : Around} {E : Value → Shared → Prop} {s : Shared} {env : Env}
theorem callWithT_kwB {pos : Pos} {T : String} {first : List Value} {args : List (Bool × Sem Value)} {keywords : List (Option Str × Sem Value)} {Q : Value → Shared → Prop}
    (hplain : args.any (·.1) = false) (hkw : keywords.any (·.1.isNone) = false)
    (h : wpAny M A (evalArgs (.type T) true args keywords) (fun a s₁ => wpAny M A (call (.type T) (first ++ a.pos) a.kw) Q E s₁) E s) :
    wpAny M A (callWith pos (.type T) first args keywords) Q E s := by
  unfold callWith
  refine wpAny_bind (wpAny_holding (wpAny_mono h (fun a s₁ h₁ => wpAny_bind (wpAny_standAt ?_)) fun _ _ x => x))
  simp only [hplain, hkw, Bool.or_false]
  refine wpAny_bind (wpAny_pure ?_)
  exact wpAny_bind (wpAny_mono h₁ (fun r s₂ hr => wpAny_bind (wpAny_holding (wpAny_point (wpAny_pure hr)))) fun _ _ x => x)
theorem callWithT_kw {pos : Pos} {T : String} {e : Expr} {rest : List Expr} {kws : List Keyword} {Q : Value → Shared → Prop}
    (h : wpAny M A (spliced (backTo pos (starEach (e :: rest) env))) (fun vs s₁ => wpAny M A (evalAll ((backToKw pos (keywordEach kws env)).map (·.2)))
      (fun kvs s₂ => wpAny M A (call (.type T) vs (((backToKw pos (keywordEach kws env)).filterMap (·.1)).zip kvs)) Q E s₂) E s₁) E s)
    (he : backTo pos (starEach (e :: rest) env) = (false, eval e env) :: backTo pos (starEach rest env) := by rfl)
    (hplain : (backTo pos (starEach (e :: rest) env)).any (·.1) = false := by rfl)
    (hall : (backToKw pos (keywordEach kws env)).all (·.1.isSome) = true := by rfl)
    (hkw : (backToKw pos (keywordEach kws env)).any (·.1.isNone) = false := by rfl) :
    wpAny M A (callWith pos (.type T) [] (backTo pos (starEach (e :: rest) env)) (backToKw pos (keywordEach kws env))) Q E s := by
  refine callWithT_kwB hplain hkw ?_
  rw [he] at h ⊢
  exact evalArgs_kwB hall h
theorem meets_enumerate_new1 {v : Value} {o : Obj} {H : Heap → Prop} (B : Begins v o H) :
    Meets (Builtin.«enumerate.__new__» ⟨[.type "enumerate", v], []⟩) (fun _ R s => H s.heap ∧
      R (.ok (.ret (.ref (s.heap.push o).objs.size))) { s with heap := (s.heap.push o).push { cls := .type "enumerate", data := .fields #[.none, .bool false, .ref s.heap.objs.size, rawInt 0, .none, .none] } }) :=
  .of_wp fun prog w A R s h => by
    obtain ⟨hp, g, d, tk, os⟩ := s; obtain ⟨h1, h⟩ := h
    have hsub := sub_enumerate
    have q1 : ∀ {A' : Around} {E : Value → Shared → Prop} {Q : Value → Shared → Prop}, Q (.ref hp.objs.size) ⟨hp.push o, g, d, tk, os⟩ → wpAny (model prog w) A' (pyIter v) Q E ⟨hp, g, d, tk, os⟩ :=
      fun q => B.iter prog w _ _ ⟨hp, g, d, tk, os⟩ _ h1 q
    wp_walk using q1
    refine wpAny_stack_any fun st => wpAny_pure ?_
    split
    · rename_i c _ _ _ _ _
      cases (c == Value.type "enumerate")
      · wp_walk using q1
        exact ⟨_, rfl, h⟩
      · wp_walk using q1
        exact ⟨_, rfl, h⟩
    · wp_walk using q1
      exact ⟨_, rfl, h⟩
theorem call_enumX {x : Str} {t : Tok} {Q : Value → Shared → Prop}
    (h : ∀ h', IsEnum h' (s.heap.objs.size + 1) s.heap.objs.size 0 .none → h'.IsStrIter s.heap.objs.size (strIterType x) x t 0 → h'.objs.size = s.heap.objs.size + 2 →
      (∀ b o, s.heap.get? b = some o → h'.get? b = some o) → Q (.ref (s.heap.objs.size + 1)) { s with heap := h' }) :
    wpAny (model prog w) A (call (.type "enumerate") [.str x t]) Q E s := by
  have B := begins_text x t
  refine callType_new F.called_enumerate (by decide) (F.typeCall_enumerate_1 _) (F.newCall_enumerate_1 _) (fun obj => F.args_object_init_2 obj _) F.entry_enumerate_new
    (meets_enumerate_new1 B) ⟨trivial, ?_⟩
  have hz : (s.heap.push { cls := .type (strIterType x), data := .fields #[.str x t, .int 0 0] }).objs.size = s.heap.objs.size + 1 := Heap.size_push ..
  show _ ∧ _
  rw [hz]
  have he : IsEnum ((s.heap.push { cls := .type (strIterType x), data := .fields #[.str x t, .int 0 0] }).push { cls := .type "enumerate", data := .fields #[.none, .bool false, .ref s.heap.objs.size, rawInt 0, .none, .none] }) (s.heap.objs.size + 1) s.heap.objs.size 0 .none := by
    have := Heap.get?_push_size (s.heap.push { cls := .type (strIterType x), data := .fields #[.str x t, .int 0 0] }) (o := { cls := .type "enumerate", data := .fields #[.none, .bool false, .ref s.heap.objs.size, rawInt 0, .none, .none] }) rfl
    rw [hz] at this; exact this
  exact ⟨⟨_, he, rfl⟩, h _ he ⟨_, Heap.get?_push_of_some _ (Heap.get?_push_size _ B.free), rfl, rfl⟩ (by rw [Heap.size_push, hz]) fun b o x => Heap.get?_push_of_some _ (Heap.get?_push_of_some _ x)⟩
end
end PySem.W
namespace L2
open PySem PySem.Spec PyProof.Rows

/-! ### text * int -/
def repS (z : Str) (n : Int) : Str := ⟨(List.replicate n.toNat z.cps.toList).flatten.toArray⟩
theorem fold_app (a : Array Nat) : ∀ (n : Nat) (b : Array Nat), (List.replicate n a).foldl (· ++ ·) b = b ++ (List.replicate n a.toList).flatten.toArray
  | 0, b => by simp
  | n + 1, b => by
    rw [List.replicate_succ, List.foldl_cons, fold_app a n, List.replicate_succ, List.flatten_cons]
    apply Array.toList_inj.mp
    simp
theorem repS_length (z : Str) (n : Int) : (repS z n).length = n.toNat * z.length := by
  show (List.replicate n.toNat z.cps.toList).flatten.toArray.size = _
  simp [Str.length]
theorem repS_0 (z : Str) : repS z 0 = Str.empty := by
  unfold repS Str.empty
  simp
theorem repS_1 (z : Str) : repS z 1 = z := by
  unfold repS
  cases z
  simp
theorem op_mul_str {X : Cx} : OpR X (binaryOp .Mult) (fun x y H Q => ∃ (z : Str) (n : Int), x = .str z ∧ y = .int n ∧ 0 ≤ n ∧ n ≤ 1000 ∧ 0 < z.length ∧ z.length ≤ 1000 ∧ Q (.str (repS z n)) H) := by
  intro pins s σ H x y v u Q I rx ry h
  obtain ⟨z, n, rfl, rfl, h0, h1, hz0, hz, q⟩ := h
  obtain ⟨t, rfl⟩ := rx
  obtain ⟨t', rfl⟩ := ry
  have hm : z.length * n.toNat ≤ 1000 * 1000 := Nat.mul_le_mul hz (by omega)
  have e : (⟨(List.replicate n.toNat z.cps).foldl (· ++ ·) #[]⟩ : Str) = repS z n := by
    rw [fold_app]
    unfold repS
    simp
  refine P.mul_str ?_ (fun _ _ => ?_) (fun _ _ => ?_) ?_
  · have a : ¬ n < -(2 ^ 63 : Int) := by omega
    have b : ¬ n ≥ 2 ^ 63 := by omega
    rw [decide_eq_false a, decide_eq_false b]; rfl
  · rename_i hn _
    have : (2 ^ 63 - 1) / n ≥ 1000 := by
      apply Int.le_ediv_of_mul_le (by omega)
      omega
    omega
  · unfold Builtin.Str.tooLong
    exact decide_eq_false (by rw [sizeLine_eq]; omega)
  · by_cases c0 : n < 1
    · rw [if_pos c0]
      have : n = 0 := by omega
      subst this
      rw [repS_0] at q
      exact ⟨by decide, V.str Str.empty, H, I.tok _, ⟨_, rfl⟩, q⟩
    · rw [if_neg c0]
      by_cases c1 : n = 1
      · subst c1
        rw [if_pos (by rfl)]
        rw [repS_1] at q
        exact ⟨V.str z, H, I, ⟨_, rfl⟩, q⟩
      · have e1 : (n == 1 || z.length == 0) = false := by
          have a : (n == 1) = false := by simp; omega
          have b : (z.length == 0) = false := by simp; omega
          rw [a, b]; rfl
        rw [if_neg (by rw [e1]; decide), e]
        refine ⟨?_, V.str (repS z n), H, I.tok _, ⟨_, rfl⟩, q⟩
        rw [repS_length, sizeLine_eq, Nat.mul_comm]
        omega

/-! ### enumerate(text); enumerate(list, start=k) -/
/-- the signs of x, each in a new pair -/
def Iex (x : Str) : It :=
  ⟨fun i _ => i < x.cps.size, fun i H v H' => ∃ T c, v = .ref T ∧ H T = none ∧ H' = upd H T (.tup [.int (i : Nat), .str ⟨#[c]⟩]) ∧ x.cps[i]? = some c, fun i _ => x.cps.size ≤ i⟩
theorem turn_enumX {P : Program} {w : World} {K : PySem.W.Frag} {elts : List Expr} {kk : Nat} {tpos : Pos} (e it : Addr) (x : Str) (t : Tok) :
    Turn P w K (.Tuple elts kk tpos) (Iex x) [e, it] e (fun i h => (∃ old, IsEnum h e it ((i : Nat) : Int) old) ∧ h.IsStrIter it (strIterType x) x t i ∧ e ≠ it ∧ i ≤ x.cps.size) where
  mem := by simp
  obj := fun i h st b hb => by
    obtain ⟨⟨old, he⟩, ⟨o, ho, hc, hd⟩, _⟩ := st
    have e' : b = e ∨ b = it := by simpa using hb
    rcases e' with z | z
    · rw [z]; exact ⟨_, he, fun v q => nomatch q⟩
    · rw [z]; exact ⟨o, ho, fun v q => by rw [hd] at q; cases q⟩
  keep := fun i h h' st k => let ⟨⟨old, he⟩, ⟨o, ho, r⟩, hne, hz⟩ := st; ⟨⟨old, k e (by simp) _ he⟩, ⟨o, k it (by simp) o ho, r⟩, hne, hz⟩
  item := by
    intro X hP hw hK hc i pins s σ H E I hf st hg
    subst hP hw hK
    obtain ⟨⟨old, he⟩, hit, hne, hz⟩ := st
    have hel : e < s.heap.objs.size := Heap.lt_size he
    have hil : it < s.heap.objs.size := by obtain ⟨_, q, _⟩ := hit; exact Heap.lt_size q
    have D := Draws.text (prog := X.prog) (w := X.w) (A := X.A.in1) (I.ok.hd hc) it x t
    refine wpAny_pyNext_enum_itemC D he hit hg hne (by simpa using hne) fun v h' tk hv ho hit' hT hsz hk => ?_
    obtain ⟨c, u, hcx, rfl⟩ := hv
    refine ⟨_, rfl, wpAny_letOwnedTupleGo_enum (s := { s with heap := h', toks := tk + 1 }) ho fun h'' he' sb => ?_⟩
    have hT2 : h''.get? s.heap.objs.size = some { cls := .type "tuple", data := .seq #[.int i tk, .str ⟨#[c]⟩ u] } := (sb.2 _ (Nat.ne_of_gt hel)).trans hT
    have new : ObjOk X.prog X.w (upd H s.heap.objs.size (.tup [.int (i : Nat), .str ⟨#[c]⟩])) h'' s.heap.objs.size (.tup [.int (i : Nat), .str ⟨#[c]⟩]) :=
      ⟨by show 2 ≤ sizeLine; decide, [.int i tk, .str ⟨#[c]⟩ u], .cons ⟨_, rfl⟩ (.cons ⟨_, rfl⟩ .nil), ⟨_, hT2, rfl, _, rfl⟩⟩
    have I1 : Inv X pins σ (upd H s.heap.objs.size (.tup [.int (i : Nat), .str ⟨#[c]⟩])) { s with heap := h'', toks := tk + 1 } :=
      I.turnedNew (ch := [e, it]) (fun b ob hb q => (sb.2 b (fun z => hb (by simp [z]))).trans (hk b ob (fun z => hb (by simp [z])) (fun z => hb (by simp [z])) q)) hf (Nat.le_refl _) new
    refine ⟨.ref s.heap.objs.size, _, I1, rfl, ⟨_, c, rfl, I.hok.fresh (Nat.le_refl _), rfl, hcx⟩, ⟨⟨Value.str ⟨#[c]⟩ u, ?_⟩, ?_, hne, hg⟩, fun b hb => ?_⟩
    · have e1 : ((i + 1 : Nat) : Int) = (i : Int) + 1 := by omega
      rw [e1]; exact he'
    · obtain ⟨o, q, r⟩ := hit'
      exact ⟨o, (sb.2 it (Ne.symm hne)).trans q, r⟩
    · have hb' : b < s.heap.objs.size := by
        have e' : b = e ∨ b = it := by simpa using hb
        rcases e' with z | z
        · rw [z]; exact hel
        · rw [z]; exact hil
      rw [upd_ne (Nat.ne_of_lt hb')]
      exact (hf b hb).1
  done := by
    intro X hP hw hK hc i pins s σ H E I hf st hg
    subst hP hw hK
    obtain ⟨⟨old, he⟩, hit, hne, hz⟩ := st
    obtain ⟨f0, f1, f2, f3, f4, f5⟩ := hf it (by simp)
    have D := Draws.text (prog := X.prog) (w := X.w) (A := X.A.in1) (I.ok.hd hc) it x t
    have e1 : i = x.cps.size := Nat.le_antisymm hz hg
    subst e1
    exact wpAny_pyNext_enum_endD D he hit fun h' eb => ⟨rfl, I.turned (t' := s.toks) (fun b o hb q => eb b o hb q) f0 f1 f3 f4 f5⟩
  self := fun A i s Q E st h => let ⟨⟨_, he⟩, _⟩ := st; wpAny_pyIter_enum he h
def iEnumX (ta : TA) : TI := fun σ H R => ta σ H fun vs H1 => ∃ x : Str, vs = [.str x] ∧ R (Iex x) H1
theorem pi_enumX {X : Cx} {e : Expr} {ta : TA} {p pos tpos : Pos} {elts : List Expr} {kk : Nat} (hg : Gl X "enumerate") (hm : X.mg "enumerate" = none) (ha : PA X [e] ta) (hs : starEach [e] X.env = [(false, eval e X.env)] := by rfl) :
    PI X (.Tuple elts kk tpos) (.Call (.Name "enumerate" p) [e] [] pos) (iEnumX ta) := by
  refine ⟨fun pins s σ H R I h => ?_⟩
  refine Call_ (ld_blt I hg hm boot_enumerate (PyProof.Rows.callWith_type1 (thn (ha.run pos pins s σ H _ I h) fun us s1 ⟨vs, H1, I1, r1, q1⟩ => ?_) hs rfl))
  obtain ⟨x, ex, q⟩ := q1
  subst ex
  cases r1 with
  | cons r rr =>
    cases rr
    obtain ⟨t, rfl⟩ := r
    refine PySem.W.call_enumX (x := x) (t := t) fun h' he hit hsz hk => wpAny_pyIter_enum he ?_
    have I2 : Inv X pins σ H1 { s1 with heap := h' } := I1.kept (t' := s1.toks) hk
    refine ⟨s1.heap.objs.size + 1, [s1.heap.objs.size + 1, s1.heap.objs.size], _, _, H1, rfl, I2, turn_enumX (s1.heap.objs.size + 1) s1.heap.objs.size x t, ⟨⟨.none, he⟩, hit, Nat.succ_ne_self _, Nat.zero_le _⟩, fun b hb => ?_, q⟩
    have e' : b = s1.heap.objs.size + 1 ∨ b = s1.heap.objs.size := by simpa using hb
    have hle : s1.heap.objs.size ≤ b := by
      rcases e' with z | z
      · rw [z]; exact Nat.le_add_right _ _
      · rw [z]; exact Nat.le_refl _
    exact I1.fpOk hle (I1.hok.fresh hle)
theorem walk_enumX {x : Str} : Walk (Iex x) x.cps.size (fun _ => True) (fun i H v H' => ∃ T c, v = .ref T ∧ H T = none ∧ H' = upd H T (.tup [.int (i : Nat), .str ⟨#[c]⟩]) ∧ x.cps[i]? = some c) :=
  ⟨fun _ _ hi _ => hi, fun _ _ => Nat.le_refl _, fun _ _ _ _ _ _ y => y⟩
/-- the items xs of the list at a, counted from k, each in a new pair -/
def Iek (K : PySem.W.Frag) (a : Addr) (xs : List V) (k : Int) : It :=
  ⟨fun i H => i < xs.length ∧ SqL K H a xs, fun i H v H' => ∃ T x, v = .ref T ∧ H T = none ∧ H' = upd H T (.tup [.int (k + (i : Nat)), x]) ∧ xs[i]? = some x, fun i H => xs.length = i ∧ SqL K H a xs⟩
theorem turn_enumK {P : Program} {w : World} {K : PySem.W.Frag} {elts : List Expr} {kk : Nat} {tpos : Pos} (a e it : Addr) (xs : List V) (k0 : Int) :
    Turn P w K (.Tuple elts kk tpos) (Iek K a xs k0) [e, it] e (fun i h => (∃ old, IsEnum h e it (k0 + (i : Nat)) old) ∧ h.IsListIter it a i ∧ e ≠ it) where
  mem := by simp
  obj := fun i h st b hb => by
    obtain ⟨⟨old, he⟩, ⟨o, ho, hc, hd⟩, _⟩ := st
    have e' : b = e ∨ b = it := by simpa using hb
    rcases e' with z | z
    · rw [z]; exact ⟨_, he, fun v q => nomatch q⟩
    · rw [z]; exact ⟨o, ho, fun v q => by rw [hd] at q; cases q⟩
  keep := fun i h h' st k => let ⟨⟨old, he⟩, hi, hne⟩ := st; ⟨⟨old, k e (by simp) _ he⟩, hi.at fun o q => k it (by simp) o q, hne⟩
  item := by
    intro X hP hw hK hc i pins s σ H E I hf st hg
    subst hP hw hK
    obtain ⟨⟨old, he⟩, hit, hne⟩ := st
    obtain ⟨hlt, hq⟩ := hg
    have hx : xs[i]? = some xs[i] := by simp [hlt]
    generalize xs[i] = x at hx
    obtain ⟨its, rv, p, hz⟩ := I.list hq
    obtain ⟨u0, hu, ru⟩ := rv.get hx
    have hel : e < s.heap.objs.size := Heap.lt_size he
    have hil : it < s.heap.objs.size := by obtain ⟨_, q, _⟩ := hit; exact Heap.lt_size q
    have hia : a ≠ it := fun z => by
      obtain ⟨o, ho, hcl, hd⟩ := hit
      obtain ⟨o2, ho2, hcl2, _⟩ := p.isList
      rw [z, ho] at ho2
      have := Option.some.inj ho2
      subst this
      rw [hcl] at hcl2
      injection hcl2 with z9
      exact absurd z9 (by decide)
    have hea : e ≠ a := fun z => by
      obtain ⟨o2, ho2, hcl2, _⟩ := p.isList
      rw [← z, he] at ho2
      have := Option.some.inj ho2
      subst this
      injection hcl2 with z9
      exact absurd z9 (by decide)
    have D := Draws.list (prog := X.prog) (w := X.w) (A := X.A.in1) (I.ok.hd hc) it a hia its.toArray
    have hlen : i < its.toArray.size := by
      have := rv.length
      simp
      omega
    refine wpAny_pyNext_enum_itemC D he ⟨hit, p.isList⟩ hlen hne (by simp [hne, hea]) fun v h' tk hv ho hit' hT hsz hk => ?_
    have ev : v = u0 := by
      have z : its.toArray[i]? = some v := hv
      have z2 : its.toArray[i]? = some u0 := by simpa using hu
      rw [z2] at z
      exact (Option.some.inj z).symm
    subst ev
    refine ⟨_, rfl, wpAny_letOwnedTupleGo_enum (s := { s with heap := h', toks := tk + 1 }) ho fun h'' he' sb => ?_⟩
    have hT2 : h''.get? s.heap.objs.size = some { cls := .type "tuple", data := .seq #[.int (k0 + (i : Nat)) tk, v] } := (sb.2 _ (Nat.ne_of_gt hel)).trans hT
    have new : ObjOk X.prog X.w (upd H s.heap.objs.size (.tup [.int (k0 + (i : Nat)), x])) h'' s.heap.objs.size (.tup [.int (k0 + (i : Nat)), x]) :=
      ⟨by show 2 ≤ sizeLine; decide, [.int (k0 + (i : Nat)) tk, v], .cons ⟨_, rfl⟩ (.cons ru .nil), ⟨_, hT2, rfl, _, rfl⟩⟩
    have I1 : Inv X pins σ (upd H s.heap.objs.size (.tup [.int (k0 + (i : Nat)), x])) { s with heap := h'', toks := tk + 1 } :=
      I.turnedNew (ch := [e, it]) (fun b ob hb q => (sb.2 b (fun z => hb (by simp [z]))).trans (hk b ob (fun z => hb (by simp [z])) (fun z => hb (by simp [z])) q)) hf (Nat.le_refl _) new
    refine ⟨.ref s.heap.objs.size, _, I1, rfl, ⟨_, x, rfl, I.hok.fresh (Nat.le_refl _), rfl, hx⟩, ⟨⟨v, ?_⟩, hit'.1.at fun o q => (sb.2 it (Ne.symm hne)).trans q, hne⟩, fun b hb => ?_⟩
    · have e1 : k0 + ((i + 1 : Nat) : Int) = k0 + (i : Int) + 1 := by omega
      rw [e1]; exact he'
    · have hb' : b < s.heap.objs.size := by
        have e' : b = e ∨ b = it := by simpa using hb
        rcases e' with z | z
        · rw [z]; exact hel
        · rw [z]; exact hil
      rw [upd_ne (Nat.ne_of_lt hb')]
      exact (hf b hb).1
  done := by
    intro X hP hw hK hc i pins s σ H E I hf st hg
    subst hP hw hK
    obtain ⟨⟨old, he⟩, hit, hne⟩ := st
    obtain ⟨hlt, hq⟩ := hg
    obtain ⟨its, rv, p, hz⟩ := I.list hq
    obtain ⟨f0, f1, f2, f3, f4, f5⟩ := hf it (by simp)
    have hia : a ≠ it := fun z => by
      obtain ⟨o, ho, hcl, hd⟩ := hit
      obtain ⟨o2, ho2, hcl2, _⟩ := p.isList
      rw [z, ho] at ho2
      have := Option.some.inj ho2
      subst this
      rw [hcl] at hcl2
      injection hcl2 with z9
      exact absurd z9 (by decide)
    have D := Draws.list (prog := X.prog) (w := X.w) (A := X.A.in1) (I.ok.hd hc) it a hia its.toArray
    have e1 : i = its.toArray.size := by
      have := rv.length
      simp
      omega
    subst e1
    exact wpAny_pyNext_enum_endD D he ⟨hit, p.isList⟩ fun h' eb => ⟨rfl, I.turned (t' := s.toks) (fun b o hb q => eb b o hb q) f0 f1 f3 f4 f5⟩
  self := fun A i s Q E st h => let ⟨⟨_, he⟩, _⟩ := st; wpAny_pyIter_enum he h
def iEnumK (K : PySem.W.Frag) (ta tk : TA) : TI := fun σ H R => ta σ H fun vs H1 => tk σ H1 fun zs H2 => ∃ (a : Addr) (xs : List V) (k : Int), vs = [.ref a] ∧ zs = [.int k] ∧ 0 ≤ k ∧ k < 1000 ∧ SqL K H2 a xs ∧ R (Iek K a xs k) H2
theorem pi_enumK {X : Cx} {e : Expr} {kws : List Keyword} {ta tk : TA} {p pos tpos : Pos} {elts : List Expr} {kk : Nat} (hg : Gl X "enumerate") (hm : X.mg "enumerate" = none) (ha : PA X [e] ta) (hk : PK X kws tk)
    (he : backTo pos (starEach [e] X.env) = (false, eval e X.env) :: backTo pos (starEach [] X.env) := by rfl) (hpl : (backTo pos (starEach [e] X.env)).any (·.1) = false := by rfl)
    (hall : (backToKw pos (keywordEach kws X.env)).all (·.1.isSome) = true := by rfl) (hnone : (backToKw pos (keywordEach kws X.env)).any (·.1.isNone) = false := by rfl) (hks : (backToKw pos (keywordEach kws X.env)).filterMap (·.1) = [Str.ofString "start"] := by rfl) :
    PI X (.Tuple elts kk tpos) (.Call (.Name "enumerate" p) [e] kws pos) (iEnumK X.K ta tk) := by
  refine ⟨fun pins s σ H R I h => ?_⟩
  refine wpAny_Call_Name_kw (ld_blt I hg hm boot_enumerate ?_)
  refine PySem.W.callWithT_kw (thn (ha.run pos pins s σ H _ I h) fun us s1 ⟨vs, H1, I1, r1, q1⟩ => thn (hk.run pos pins s1 σ H1 _ I1 q1) fun ws s2 ⟨zs, H2, I2, r2, q2⟩ => ?_) he hpl hall hnone
  rw [hks]
  obtain ⟨a, xs, k, ex, ez, hk0, hk1, hq, q⟩ := q2
  subst ex ez
  cases r1 with
  | cons r rr =>
    cases rr
    cases r
    cases r2 with
    | cons r' rr' =>
      cases rr'
      obtain ⟨t, rfl⟩ := r'
      obtain ⟨its, rv, p', hz⟩ := I2.list hq
      refine enum_begins_start (begins_list a its.toArray) p'.isList (by omega) (by omega) fun h' he hit hsz hkp => wpAny_pyIter_enum he ?_
      have I3 : Inv X pins σ H2 { s2 with heap := h' } := I2.kept (t' := s2.toks) hkp
      have e0 : k + ((0 : Nat) : Int) = k := by omega
      refine ⟨s2.heap.objs.size + 1, [s2.heap.objs.size + 1, s2.heap.objs.size], _, _, H2, rfl, I3, turn_enumK a (s2.heap.objs.size + 1) s2.heap.objs.size xs k, ⟨⟨.none, by rw [e0]; exact he⟩, ⟨_, hit, rfl, rfl⟩, Nat.succ_ne_self _⟩, fun b hb => ?_, q⟩
      have e' : b = s2.heap.objs.size + 1 ∨ b = s2.heap.objs.size := by simpa using hb
      have hle : s2.heap.objs.size ≤ b := by
        rcases e' with z | z
        · rw [z]; exact Nat.le_add_right _ _
        · rw [z]; exact Nat.le_refl _
      exact I2.fpOk hle (I2.hok.fresh hle)
theorem walk_enumK {K : PySem.W.Frag} {a : Addr} {xs : List V} {k : Int} : Walk (Iek K a xs k) xs.length (fun H => SqL K H a xs) (fun i H v H' => ∃ T x, v = .ref T ∧ H T = none ∧ H' = upd H T (.tup [.int (k + (i : Nat)), x]) ∧ xs[i]? = some x) :=
  ⟨fun _ _ hi q => ⟨hi, q⟩, fun _ q => ⟨rfl, q⟩, fun _ _ _ _ _ _ y => y⟩

/-! ### min(xs, default=d) of data -/
theorem Vals.ref1' {a : Addr} {us : List Value} (r : Vals [V.ref a] us) : us = [Value.ref a] := by
  cases r with
  | cons r rr => cases rr; cases r; rfl
def rMinD (K : PySem.W.Frag) : List V → List V → Hp → VK → Prop := fun vs zs H Q => ∃ (a : Addr) (xs : List V) (ds : List PyData) (d : V), vs = [.ref a] ∧ zs = [d] ∧ SqL K H a xs ∧ DpAll K H xs ds ∧ PySem.W.AlikeAll ds ∧ PyData.depthAll ds ≤ 20 ∧
  (ds = [] → Q d H) ∧ ∀ (y : PyData) (ys : List PyData) (i : Nat) (v : V) (e : PyData), ds = y :: ys → xs[i]? = some v → ds[i]? = some e → e = PySem.W.minD y ys → Q v H
theorem dpAll_get {K : PySem.W.Frag} {H : Hp} : ∀ {xs : List V} {ds : List PyData}, DpAll K H xs ds → ∀ {i : Nat} {v : V}, xs[i]? = some v → ∃ e, ds[i]? = some e ∧ Dp K H v e
  | _, _, .nil, i, v, h => by simp at h
  | _, _, .cons a r, 0, v, h => by simp at h; subst h; exact ⟨_, rfl, a⟩
  | _, _, .cons a r, i + 1, v, h => by
    obtain ⟨e, h1, h2⟩ := dpAll_get r (i := i) (v := v) (by simpa using h)
    exact ⟨e, by simpa using h1, h2⟩
theorem cr_minD {X : Cx} {k : Nat} (hc : X.calm = true) (hr : Room k X.A) : CallRK X (.builtin "min") [Str.ofString "default"] (rMinD X.K) := by
  intro pins s σ H vs zs us ws Q I r rz h
  obtain ⟨a, xs, ds, d, rfl, rfl, hs, hd, ha, hdep, q0, q1⟩ := h
  obtain rfl := Vals.ref1' r
  cases rz with
  | @cons _ u0 _ _ rd rr =>
    cases rr
    obtain ⟨its, rv, p, hz⟩ := I.list hs
    obtain ⟨as, hre⟩ := Dp.readsAll I ds xs its hd rv
    show wpAny _ _ (call (.builtin "min") [.ref a] [(Str.ofString "default", u0)]) _ _ _
    have hu := hr.units
    refine PySem.W.min_list_default (I.ok.hd hc) p.isList (by simpa using hre) ha (by have := hr.units; omega) (fun e h' tk hk => ⟨d, H, I.kept (t' := tk) hk, rd, q0 e⟩) fun y ys i v h' tk bs e hv hrd hk => ?_
    have hv' : its[i]? = some v := by simpa using hv
    have hi : i < xs.length := by
      have := (List.getElem?_eq_some_iff.mp hv').1
      have := rv.length
      omega
    have hx : xs[i]? = some xs[i] := by simp [hi]
    generalize xs[i] = x at hx
    obtain ⟨u, hu1, ru⟩ := rv.get hx
    rw [hv'] at hu1
    obtain rfl := Option.some.inj hu1
    obtain ⟨ee, he1, he2⟩ := dpAll_get hd hx
    obtain ⟨as2, hr2⟩ := Dp.reads I ee x v he2 ru
    have := (PyProof.Rows.reads_det (fun b o z _ => hk b o z) hr2 hrd).1
    exact ⟨x, H, I.kept (t' := tk) hk, ru, q1 y ys i x ee e hx he1 this.symm⟩

/-! ### C.m(x, ..), m a def of the class at C, read off the class -/
def tClsF (C : Addr) (sp : Sp) (E : XK) (ta : TE) (t : TA) : TE := fun σ H Q => ta σ H fun x H1 => x = .ref C ∧ t σ H1 fun vs H2 => sp vs H2 Q E
theorem pe_clsf {X : Cx} {CX : CXT} {k : Nat} {C f : Addr} {fd : FuncData} {ps : List Str} {mc : Value} {sp : Sp} {E : XK} {o e : Expr} {es : List Expr} {m : Str} {pos apos : Pos} {ta : TE} {t : TA} {pl : Sem Bool}
    (he : PE X o ta) (r : ClX.CRead X.K C mc) (hf : PySem.W.findCls X.K (.ref C) mc m = some (.val (.ref f))) (hk : PySem.W.keepIn X.K (.ref f) = true) (F : FnOk X.prog X.w X.K X.mg X.base CX k f fd ps sp) (hr : Room k X.A) (hb : Binds X.K fd ps []) (hx : Passes CX X E) (ha : PA X (e :: es) t)
    (hst : starEach (e :: es) X.env = (false, eval e X.env) :: starEach es X.env := by rfl) (hpl : (backTo pos (starEach es X.env)).any (·.1) = false := by rfl)
    (ht : eval (.Call (.Attribute o m apos) (e :: es) [] pos) X.env = (do
      let ov ← eval o X.env
      standAt apos.atName
      let (f, first) ← holding [ov] (getMethod ov m pl)
      callWith pos f first (backTo pos (starEach (e :: es) X.env)) (backToKw pos (keywordEach [] X.env))) := by rfl) :
    PE X (.Call (.Attribute o m apos) (e :: es) [] pos) (tClsF C sp E ta t) := by
  refine ⟨fun pins s σ H Q I h => ?_⟩
  refine PySem.W.methodCall_KW (pl := pl) (thn (he.run pins s σ H _ I h) fun u s1 ⟨x, H1, I1, rx, ex, q⟩ => ?_) ht
  subst ex
  obtain rfl : u = Value.ref C := rx
  refine PySem.W.method_cls I1.kIn r.ga (PySem.W.cls_value I1.kIn r.rd hf rfl ?_)
  refine PySem.W.callWith_K (h₀ := X.base) I1.ok.mod.kin hk (thn (ha.run pos pins _ σ H1 _ (I1.tok _) q) fun us s3 ⟨vs, H2, I3, rv, q2⟩ => ⟨I3.kIn, ?_⟩) hst hpl
  have q3 : sp (vs ++ []) H2 Q E := by rw [List.append_nil]; exact q2
  exact run_fn F hr hb .nil hx I3 rv q3

/-! ### X(e, ..) of an own class where what is raised is wished for at the caller's slots -/
def tMakeS (C : Addr) (sp : Sp) (E : St → XK) (t : TA) : TE := fun σ H Q => t σ H fun vs H1 => ∀ x dx, H1 x = none → H1 dx = none → dx ≠ x → sp (.ref x :: vs) (upd (upd H1 dx (.own x)) x (.ins C dx [])) (fun v H2 => v = .non ∧ Q (.ref x) H2) (E σ)
theorem run_makeS {X : Cx} {CX : CXT} {k : Nat} {C f : Addr} {fd : FuncData} {ps : List Str} {sp : Sp} {E : St → XK} {pins : List (Addr × Obj)} {σ : St} {H : Hp} {s : Shared} {Q : VK} {us : List Value} {vs : List V} (M : Mk X.K C f) (F : FnOk X.prog X.w X.K X.mg X.base CX k f fd ps sp) (hr : Room (k + 1) X.A) (hb : Binds X.K fd ps [])
    (hx : PassesAt CX X σ (E σ)) (I : Inv X pins σ H s) (r : Vals vs us)
    (h : ∀ x dx, H x = none → H dx = none → dx ≠ x → sp (.ref x :: vs) (upd (upd H dx (.own x)) x (.ins C dx [])) (fun v H2 => v = .non ∧ Q (.ref x) H2) (E σ)) :
    wpAny (model X.prog X.w) X.A (call (.ref C) us) (EP X pins σ Q) X.xe s := by
  have hq := h (s.heap.objs.size + 1) s.heap.objs.size (I.hok.fresh (Nat.le_succ _)) (I.hok.fresh (Nat.le_refl _)) (Nat.ne_of_lt (Nat.lt_succ_self _))
  have I2 := Inv.made (C := C) I
  have r2 : Vals (V.ref (s.heap.objs.size + 1) :: vs) (Value.ref (s.heap.objs.size + 1) :: us) := .cons rfl r
  have hl : (Value.ref (s.heap.objs.size + 1) :: us).length = ps.length := by
    have e := r2.length
    rw [F.len _ _ _ _ hq] at e
    exact e.symm
  have hb2 := hb { s with heap := s.heap } (Value.ref (s.heap.objs.size + 1) :: us)
  refine wpAny_call (make_map (f := f) I.kIn M.makes M.init (beq_iff_eq.mp M.fn) (codeAny_mono (F.run _ X.stack _ _ ⟨Value.ref (s.heap.objs.size + 1) :: us, []⟩ (Value.ref (s.heap.objs.size + 1) :: us) _ _ (E σ) (hr.make C us [])
    (I2.env0.make C us []) (by have z := hb _ (Value.ref (s.heap.objs.size + 1) :: us) I2.kIn (by rw [List.append_nil]; exact hl); rw [List.append_nil] at z; exact z) r2 hq) fun r s' hq' => ?_))
  cases r with
  | error e => exact hx pins _ _ e s' I2 hq'
  | ok fl =>
    cases fl with
    | ret u =>
      obtain ⟨v, H', I3, rv, ev, q3⟩ := I2.after hq'
      subst ev
      exact ⟨rv, ⟨V.ref (s.heap.objs.size + 1), H', I3, rfl, q3⟩⟩
    | next => exact False.elim hq'
    | brk => exact False.elim hq'
    | cont => exact False.elim hq'
theorem pe_makeS {X : Cx} {CX : CXT} {k : Nat} {C f : Addr} {fd : FuncData} {ps : List Str} {sp : Sp} {E : St → XK} {x : Str} {p pos : Pos} {e : Expr} {es : List Expr} {t : TA} (M : Mk X.K C f) (F : FnOk X.prog X.w X.K X.mg X.base CX k f fd ps sp) (hr : Room (k + 1) X.A) (hg : Gl X x) (hm : X.mg x = some (.ref C)) (hb : Binds X.K fd ps []) (hx : ∀ σ, PassesAt CX X σ (E σ))
    (ha : PA X (e :: es) t) (hdb : (x == ("__debug__" : Str)) = false := by decide) (he : starEach (e :: es) X.env = (false, eval e X.env) :: starEach es X.env := by rfl) (hpl : (backTo pos (starEach es X.env)).any (·.1) = false := by rfl) :
    PE X (.Call (.Name x p) (e :: es) [] pos) (tMakeS C sp E t) := by
  refine ⟨fun pins s σ H Q I h => ?_⟩
  refine wpAny_Call_Name_kw (ld_glob I hg hm ?_ hdb)
  refine PySem.W.callWith_K (h₀ := X.base) I.ok.mod.kin M.kp (thn (ha.run pos pins s σ H _ I h) fun us s1 ⟨vs, H1, I1, r, q⟩ => ⟨I1.kIn, ?_⟩) he hpl
  exact run_makeS M F hr hb (hx σ) I1 r q
end L2
namespace My
open PySem L2 SS
/-! ### the text by places -/
def top (i : Nat) : Stmt := PySem.Challenge.pw_sendstead_k02_texts_too_long.main.body.getD i (.Pass ⟨0, 0, 0, 0⟩)
abbrev sWords : Stmt := top 19
abbrev sScanned : Stmt := top 20
abbrev sRow : Stmt := top 21
abbrev sWrong : Stmt := top 22
abbrev sEnd : Stmt := top 23
abbrev sIsWord : Stmt := top 24
abbrev sIsSmall : Stmt := top 25
abbrev sIsFree : Stmt := top 26
abbrev sIsKind : Stmt := top 27
abbrev sIsName : Stmt := top 28
abbrev sIsText : Stmt := top 29
abbrev sIsNum : Stmt := top 30
abbrev sHas : Stmt := top 31
abbrev tl (z : Str) : T := z.cps.toList
abbrev mk (l : T) : Str := ⟨l.toArray⟩
theorem tl_mk (l : T) : tl (mk l) = l := rfl
theorem mk_tl (z : Str) : mk (tl z) = z := by cases z; simp
theorem len_tl (z : Str) : (tl z).length = z.length := by simp [Str.length]
theorem same_new {H : Hp} {p : Addr} (h : H p = none) (o : HO) : Same H (upd H p o) := fun b u q => by rw [upd_ne (ne_of_none q h)]; exact q
theorem same_upd {H H' : Hp} {p : Addr} (s : Same H H') (h : H p = none) (o : HO) : Same H (upd H' p o) := fun b u q => by rw [upd_ne (ne_of_none q h)]; exact s b u q
/-- a text of the module's own, a number, a tuple -/
def GS (mg : Str → Option Value) (x : Str) (z : Str) : Prop := ∃ u, mg x = some u ∧ RelV (.str z) u
def GI (mg : Str → Option Value) (x : Str) (i : Int) : Prop := ∃ u, mg x = some u ∧ RelV (.int i) u
def GT (K : PySem.W.Frag) (mg : Str → Option Value) (x : Str) (zs : List Str) : Prop := ∃ a, mg x = some (.ref a) ∧ ∀ H, SqT K H a (zs.map V.str)
def KEPTs : List Str := ["do", "else", "end", "false", "field", "if", "kind", "method", "more", "new", "none", "raise", "return", "say", "self", "taken", "then", "true", "try", "under", "up", "while"]

/-! ### defs by their names, methods by their class -/
structure Dn (K : PySem.W.Frag) (mg : Str → Option Value) (x : Str) (st : Stmt) : Prop where
  ex : ∃ f fd, Fun K x x st f fd ∧ mg x = some (.ref f)
structure Cc (P : Program) (w : World) (K : PySem.W.Frag) (mg : Str → Option Value) (base : Heap) (CX : CXT) (k : Nat) (x : Str) (sp : Sp) : Prop where
  ex : ∃ f fd ps, FnOk P w K mg base CX k f fd ps sp ∧ mg x = some (.ref f) ∧ PySem.W.keepIn K (.ref f) = true ∧ Binds K fd ps []
theorem pe_cc {X : Cx} {CX : CXT} {k j : Nat} {x : Str} {sp : Sp} {E : XK} {p pos : Pos} {e : Expr} {es : List Expr} {t : TA} (c : Cc X.prog X.w X.K X.mg X.base CX k x sp) (hr : Room j X.A) (hk : k ≤ j) (hx : Passes CX X E) (ha : PA X (e :: es) t) (hg : Gl X x := by rfl)
    (hdb : (x == ("__debug__" : Str)) = false := by decide) (he : starEach (e :: es) X.env = (false, eval e X.env) :: starEach es X.env := by rfl) (hpl : (backTo pos (starEach es X.env)).any (·.1) = false := by rfl) :
    PE X (.Call (.Name x p) (e :: es) [] pos) (tCall sp [] E t) := by
  obtain ⟨f, fd, ps, F, hm, kp, hb⟩ := c.ex
  exact pe_call F (hr.mono hk) hg hm kp hb .nil hx ha hdb he hpl
theorem pe_gs {X : Cx} {x z : Str} {pos : Pos} (h : GS X.mg x z) (hg : Gl X x := by rfl) (hd : (x == ("__debug__" : Str)) = false := by decide) : PE X (.Name x pos) (tC (.str z)) := by
  obtain ⟨u, hm, r⟩ := h
  exact pe_glob hg hm r hd
theorem pe_gi {X : Cx} {x : Str} {i : Int} {pos : Pos} (h : GI X.mg x i) (hg : Gl X x := by rfl) (hd : (x == ("__debug__" : Str)) = false := by decide) : PE X (.Name x pos) (tC (.int i)) := by
  obtain ⟨u, hm, r⟩ := h
  exact pe_glob hg hm r hd
def tGT (K : PySem.W.Frag) (zs : List Str) : TE := fun _ H Q => ∀ a, SqT K H a (zs.map V.str) → Q (.ref a) H
theorem pe_gt {X : Cx} {x : Str} {zs : List Str} {pos : Pos} (h : GT X.K X.mg x zs) (hg : Gl X x := by rfl) (hd : (x == ("__debug__" : Str)) = false := by decide) : PE X (.Name x pos) (tGT X.K zs) := by
  obtain ⟨a, hm, r⟩ := h
  exact ⟨fun pins s σ H Q I q => (pe_glob (v := .ref a) hg hm rfl hd).run pins s σ H Q I (q a (r H))⟩
/-- what the module's top has -/
structure TxS (K : PySem.W.Frag) (mg : Str → Option Value) : Prop where
  len : mg "len" = none
  all : mg "all" = none
  mn : mg "min" = none
  tup : mg "tuple" = none
  int : mg "int" = none
  str : mg "str" = none
  enum : mg "enumerate" = none
  big : GI mg "BIG" 1000000000000
  rows : GI mg "MOST_ROWS" 300
  cols : GI mg "MOST_COLUMNS" 120
  tsig : GI mg "MOST_TEXT_SIGNS" 40
  nsig : GI mg "MOST_NAME_SIGNS" 12
  small : GS mg "SMALL" (mk SMALL)
  caps : GS mg "CAPITALS" (mk CAPS)
  figs : GS mg "FIGURES" (mk FIGS)
  texts : GS mg "TEXT_SIGNS" (mk TEXTS)
  ssig : GS mg "SMALL_SIGNS" (mk (SMALL ++ FIGS))
  ksig : GS mg "KIND_SIGNS" (mk (SMALL ++ CAPS ++ FIGS))
  br : GT K mg "BRACKETS" [mk [40], mk [41], mk [123], mk [125], mk [91], mk [93], mk [124]]
  marks : GT K mg "MARKS" [mk [43], mk [45], mk [42], mk [47], mk [60], mk [61], mk [58, 61], mk [58]]
  kept : GT K mg "KEPT" KEPTs
section
variable {P : Program} {w : World} {K : PySem.W.Frag} {mg : Str → Option Value} {base : Heap}
abbrev C0 (P : Program) (w : World) (K : PySem.W.Frag) (mg : Str → Option Value) (base : Heap) (k : Nat) (x : Str) (sp : Sp) : Prop := Cc P w K mg base CX0 k x sp
/-- a def that only tells: its answer, what stood stands -/
def spHas : Sp := fun vs H Q _ => ∃ z s : Str, vs = [.str z, .str s] ∧ z.length ≤ 100000 ∧ ∀ H', Same H H' → Q (.bl (hasOnly (tl z) (tl s))) H'
theorem takeWhile_len {p : Nat → Bool} : ∀ {l : List Nat}, l.length ≤ (l.takeWhile p).length → l.all p = true
  | [], _ => rfl
  | a :: l, h => by
    rw [List.takeWhile_cons] at h
    by_cases c : p a = true
    · rw [if_pos c] at h
      rw [List.all_cons, c, Bool.true_and]
      exact takeWhile_len (by simpa using h)
    · rw [if_neg c] at h
      simp at h
theorem takeWhile_of : ∀ {p : Nat → Bool} {l : List Nat}, l.all p = true → l.takeWhile p = l
  | p, [], _ => rfl
  | p, a :: l, h => by
    rw [List.all_cons, Bool.and_eq_true] at h
    rw [List.takeWhile_cons, if_pos h.1, takeWhile_of h.2]
theorem all_takeWhile {p : Nat → Bool} : ∀ (l : List Nat), (l.takeWhile p).all p = true
  | [] => rfl
  | a :: l => by
    rw [List.takeWhile_cons]
    by_cases c : p a = true
    · rw [if_pos c, List.all_cons, c, all_takeWhile l]; rfl
    · rw [if_neg c]; rfl
theorem strip_nil (g : Nat → Bool) (z : Str) : decide (V.str (Txt.stripBy g true true z) = V.str (Str.ofString "")) = (tl z).all g := by
  have ht : (Str.ofString "") = mk [] := by decide +kernel
  rw [dec_str, ht]
  have hl := len_tl z
  have hlo : PySem.stripLo g true z = ((tl z).takeWhile g).length := rfl
  have hhi : ∀ lo, PySem.stripHi g true z lo = z.length - (((tl z).drop lo).reverse.takeWhile g).length := fun _ => rfl
  by_cases c : (tl z).all g = true
  · rw [c]
    refine decide_eq_true ?_
    have e0 := takeWhile_of c
    have lo : PySem.stripLo g true z = z.length := by rw [hlo, e0, hl]
    have hi : PySem.stripHi g true z z.length = z.length := by
      rw [hhi, ← hl, List.drop_length]; rfl
    unfold Txt.stripBy
    split
    · rename_i q
      unfold PySem.stripSame at q
      rw [lo] at q
      have q1 : z.length = 0 := by
        have := (Bool.and_eq_true _ _ ▸ q).1
        simpa using this
      have : tl z = [] := List.eq_nil_of_length_eq_zero (by rw [hl]; exact q1)
      rw [← mk_tl z, this]
    · unfold PySem.stripped Builtin.Str.strSub
      rw [lo, hi]
      simp
      exact Nat.min_le_left _ _
  · have cf : (tl z).all g = false := by simpa using c
    rw [cf]
    refine decide_eq_false fun h => ?_
    apply c
    unfold Txt.stripBy at h
    split at h
    · rw [h]; rfl
    · have h2 := congrArg (fun s => s.cps.size) h
      unfold PySem.stripped Builtin.Str.strSub at h2
      rw [hlo, hhi] at h2
      have ha : ((tl z).takeWhile g).length ≤ (tl z).length := (List.takeWhile_sublist g).length_le
      have hr : (((tl z).drop ((tl z).takeWhile g).length).reverse.takeWhile g).length ≤ ((tl z).drop ((tl z).takeWhile g).length).length := by
        have := (List.takeWhile_sublist (l := ((tl z).drop ((tl z).takeWhile g).length).reverse) g).length_le
        rwa [List.length_reverse] at this
      have hz : z.cps.size = z.length := rfl
      have h3 : min (z.length - (((tl z).drop ((tl z).takeWhile g).length).reverse.takeWhile g).length) z.length - ((tl z).takeWhile g).length = 0 := by
        rw [Array.size_extract, hz] at h2
        exact h2
      rw [List.length_drop] at hr
      have hd : (tl z).drop ((tl z).takeWhile g).length |>.all g := by
        have hh : (((tl z).drop ((tl z).takeWhile g).length).reverse).all g = true := takeWhile_len (by rw [List.length_reverse, List.length_drop]; omega)
        rwa [List.all_reverse] at hh
      have ht2 := List.takeWhile_append_dropWhile (p := g) (l := tl z)
      have hdw : (tl z).drop ((tl z).takeWhile g).length = (tl z).dropWhile g := by
        conv => lhs; arg 2; rw [← ht2]
        rw [List.drop_left]
      rw [← ht2, List.all_append, all_takeWhile, ← hdw, hd]
      rfl
theorem has_strip (z s : Str) : decide (V.str (Txt.stripChars z s) = V.str (Str.ofString "")) = hasOnly (tl z) (tl s) := by
  unfold Txt.stripChars
  rw [strip_nil]
  unfold hasOnly
  congr 1
  funext c
  rw [Bool.eq_iff_iff, decide_eq_true_eq]
  simp [tl]
theorem scHas : FnScope ["word", "signs"] ["word", "signs"] (defScope sHas) := ⟨rfl, rfl, rfl, by decide +kernel, rfl, by decide +kernel, by decide +kernel⟩
theorem ok_has {f : Addr} {fd : FuncData} (F : Fun K "has_only" "has_only" sHas f fd) (mAll : mg "all" = none) : FnOk P w K mg base CX0 1 f fd ["word", "signs"] spHas := by
  refine F.ok scHas (fun vs H Q E h => ?_) (fun cdv A outer s H vs Q E hr h => ?_)
  · obtain ⟨z, s, rfl, _⟩ := h
    rfl
  obtain ⟨z, sg, rfl, hz, k⟩ := h
  refine ⟨_, pss_one (ps_ret (pe_cmpR op_eq (pe_m1 PySem.F.slot_str_strip PySem.F.type_str_strip mt_stripChars (pv 0) (pv 1)) pe_str (nomark _))), ?_⟩
  refine ⟨_, rfl, ⟨_, rfl⟩, _, rfl, _, _, rfl, rfl, by rw [sizeLine_eq]; omega, rfl, ?_⟩
  rw [has_strip]
  exact k H (Same.refl H)

theorem c_has (T : TxS K mg) (D : Dn K mg "has_only" sHas) : C0 P w K mg base 1 "has_only" spHas := by
  obtain ⟨f, fd, F, m⟩ := D.ex
  exact ⟨f, fd, _, ok_has F T.all, m, F.kp, F.binds (ps := ["word", "signs"]) fun _ _ _ _ _ _ us hl => match us, hl with | [_, _], _ => rfl⟩
def spB (g : T → Bool) : Sp := fun vs H Q _ => ∃ z : Str, vs = [.str z] ∧ z.length ≤ 100000 ∧ ∀ H', Same H H' → Q (.bl (g (tl z))) H'
/-! is_name -/
def spName : Sp := fun vs H Q _ => ∃ z s1 s2 : Str, vs = [.str z, .str s1, .str s2] ∧ z.length ≤ 100000 ∧ ∀ H', Same H H' → Q (.bl (isName (tl z) (tl s1) (tl s2))) H'
theorem scName : FnScope ["word", "first", "others"] ["word", "first", "others"] (defScope sIsName) := ⟨rfl, rfl, rfl, by decide +kernel, rfl, by decide +kernel, by decide +kernel⟩
theorem ok_name {f : Addr} {fd : FuncData} (F : Fun K "is_name" "is_name" sIsName f fd) (T : TxS K mg) (G : C0 P w K mg base 1 "has_only" spHas) : FnOk P w K mg base CX0 2 f fd ["word", "first", "others"] spName := by
  refine F.ok scName (fun vs H Q E h => ?_) (fun cdv A outer s H vs Q E hr h => ?_)
  · obtain ⟨z, s1, s2, rfl, _⟩ := h
    rfl
  obtain ⟨z, s1, s2, rfl, hz, k⟩ := h
  have hsz : z.length ≤ sizeLine := by rw [sizeLine_eq]; omega
  refine ⟨_, pss_one (ps_ret (pe_and (pe_chain op_le op_le pe_int (pe_callB call_len_str (by rfl) T.len PySem.boot_len (pa_cons (pv 0) pa_nil)) (pe_gi T.nsig)) (pe_and (pe_cmpR op_in_sign (pe_item_str (pv 0) pe_int (fun _ _ => rfl)) (pv 1) rfl) (pe_one (pe_cc G hr (Nat.le_refl _) pass0 (pa_cons (pv 0) (pa_cons (pv 2) pa_nil))))))), ?_⟩
  refine ⟨_, rfl, z, rfl, hsz, _, _, rfl, rfl, _, rfl, ?_⟩
  have el := len_tl z
  refine ite2 (fun c => ?_) (fun c => ?_)
  · have c1 : (1 : Int) ≤ (z.length : Nat) := of_decide_eq_true c
    refine ⟨_, _, rfl, rfl, _, rfl, ?_⟩
    refine ite2 (fun c2 => ?_) (fun c2 => ?_)
    · have c3 : ((z.length : Nat) : Int) ≤ 12 := of_decide_eq_true c2
      obtain ⟨c0, hc⟩ : ∃ c0, z.cps[0]? = some c0 := ⟨z.cps[0]'(by show 0 < z.length; omega), by simp [show 0 < z.cps.size from (by show 0 < z.length; omega)]⟩
      refine ⟨_, rfl, z, 0, c0, rfl, rfl, by omega, by decide, by omega, hc, _, rfl, c0, s1, rfl, rfl, _, rfl, ?_⟩
      have g0 : (tl z).getD 0 0 = c0 := by
        have : (tl z)[0]? = some c0 := by simpa using hc
        rw [List.getD_eq_getElem?_getD, this]
        rfl
      have e : isName (tl z) (tl s1) (tl s2) = (decide (c0 ∈ tl s1) && hasOnly (tl z) (tl s2)) := by
        unfold isName
        rw [decide_eq_true (by omega), g0]
        rfl
      refine ite2 (fun c4 => ?_) (fun c4 => ?_)
      · refine ⟨_, rfl, _, rfl, z, s2, rfl, hz, fun H' s => ?_⟩
        have := k H' s
        rw [e, c4, Bool.true_and] at this
        exact this
      · have := k H (Same.refl H)
        have c5 : decide (c0 ∈ tl s1) = false := by simpa using c4
        rw [e, c5, Bool.false_and] at this
        exact this
    · have c3 : ¬ ((z.length : Nat) : Int) ≤ 12 := of_decide_eq_false (Bool.eq_false_iff.mpr c2)
      have e : isName (tl z) (tl s1) (tl s2) = false := by
        unfold isName
        rw [decide_eq_false (by omega)]
        rfl
      have := k H (Same.refl H)
      rw [e] at this
      exact this
  · have c1 : ¬ (1 : Int) ≤ (z.length : Nat) := of_decide_eq_false (Bool.eq_false_iff.mpr c)
    have e : isName (tl z) (tl s1) (tl s2) = false := by
      unfold isName
      rw [decide_eq_false (by omega)]
      rfl
    have := k H (Same.refl H)
    rw [e] at this
    exact ⟨false, rfl, iteF this⟩
theorem c_name (T : TxS K mg) (D : Dn K mg "is_name" sIsName) (G : C0 P w K mg base 1 "has_only" spHas) : C0 P w K mg base 2 "is_name" spName := by
  obtain ⟨f, fd, F, m⟩ := D.ex
  exact ⟨f, fd, _, ok_name F T G, m, F.kp, F.binds (ps := ["word", "first", "others"]) fun _ _ _ _ _ _ us hl => match us, hl with | [_, _, _], _ => rfl⟩
/-! is_small, is_kind_name -/
theorem small_add (a b : T) : mk a ++ mk b = mk (a ++ b) := by
  show (⟨a.toArray ++ b.toArray⟩ : Str) = _
  simp
theorem scSmall : FnScope ["word"] ["word"] (defScope sIsSmall) := ⟨rfl, rfl, rfl, by decide +kernel, rfl, by decide +kernel, by decide +kernel⟩
theorem ok_small {f : Addr} {fd : FuncData} (F : Fun K "is_small" "is_small" sIsSmall f fd) (T : TxS K mg) (G : C0 P w K mg base 2 "is_name" spName) : FnOk P w K mg base CX0 3 f fd ["word"] (spB isSmall) := by
  refine F.ok scSmall (fun vs H Q E h => ?_) (fun cdv A outer s H vs Q E hr h => ?_)
  · obtain ⟨z, rfl, _⟩ := h
    rfl
  obtain ⟨z, rfl, hz, k⟩ := h
  refine ⟨_, pss_one (ps_ret (pe_cc G hr (Nat.le_refl _) pass0 (pa_cons (pv 0) (pa_cons (pe_gs T.small) (pa_cons (pe_gs T.ssig) pa_nil))))), ?_⟩
  refine ⟨_, rfl, z, _, _, rfl, hz, fun H' s => ?_⟩
  exact k H' s
theorem c_small (T : TxS K mg) (D : Dn K mg "is_small" sIsSmall) (G : C0 P w K mg base 2 "is_name" spName) : C0 P w K mg base 3 "is_small" (spB isSmall) := by
  obtain ⟨f, fd, F, m⟩ := D.ex
  exact ⟨f, fd, _, ok_small F T G, m, F.kp, F.binds (ps := ["word"]) fun _ _ _ _ _ _ us hl => match us, hl with | [_], _ => rfl⟩
theorem scKind : FnScope ["word"] ["word"] (defScope sIsKind) := ⟨rfl, rfl, rfl, by decide +kernel, rfl, by decide +kernel, by decide +kernel⟩
theorem ok_kind {f : Addr} {fd : FuncData} (F : Fun K "is_kind_name" "is_kind_name" sIsKind f fd) (T : TxS K mg) (G : C0 P w K mg base 2 "is_name" spName) : FnOk P w K mg base CX0 3 f fd ["word"] (spB isKindName) := by
  refine F.ok scKind (fun vs H Q E h => ?_) (fun cdv A outer s H vs Q E hr h => ?_)
  · obtain ⟨z, rfl, _⟩ := h
    rfl
  obtain ⟨z, rfl, hz, k⟩ := h
  refine ⟨_, pss_one (ps_ret (pe_cc G hr (Nat.le_refl _) pass0 (pa_cons (pv 0) (pa_cons (pe_gs T.caps) (pa_cons (pe_gs T.ksig) pa_nil))))), ?_⟩
  refine ⟨_, rfl, z, _, _, rfl, hz, fun H' s => ?_⟩
  exact k H' s
theorem c_kind (T : TxS K mg) (D : Dn K mg "is_kind_name" sIsKind) (G : C0 P w K mg base 2 "is_name" spName) : C0 P w K mg base 3 "is_kind_name" (spB isKindName) := by
  obtain ⟨f, fd, F, m⟩ := D.ex
  exact ⟨f, fd, _, ok_kind F T G, m, F.kp, F.binds (ps := ["word"]) fun _ _ _ _ _ _ us hl => match us, hl with | [_], _ => rfl⟩
/-! is_text -/
theorem scText : FnScope ["signs"] ["signs"] (defScope sIsText) := ⟨rfl, rfl, rfl, by decide +kernel, rfl, by decide +kernel, by decide +kernel⟩
theorem ok_text {f : Addr} {fd : FuncData} (F : Fun K "is_text" "is_text" sIsText f fd) (T : TxS K mg) (G : C0 P w K mg base 1 "has_only" spHas) : FnOk P w K mg base CX0 2 f fd ["signs"] (spB isText) := by
  refine F.ok scText (fun vs H Q E h => ?_) (fun cdv A outer s H vs Q E hr h => ?_)
  · obtain ⟨z, rfl, _⟩ := h
    rfl
  obtain ⟨z, rfl, hz, k⟩ := h
  have hsz : z.length ≤ sizeLine := by rw [sizeLine_eq]; omega
  refine ⟨_, pss_one (ps_ret (pe_and (pe_cmpR op_le (pe_callB call_len_str (by rfl) T.len PySem.boot_len (pa_cons (pv 0) pa_nil)) (pe_gi T.tsig) (nomark _)) (pe_one (pe_cc G hr (Nat.le_refl _) pass0 (pa_cons (pv 0) (pa_cons (pe_gs T.texts) pa_nil)))))), ?_⟩
  refine ⟨_, rfl, z, rfl, hsz, _, _, rfl, rfl, _, rfl, ?_⟩
  have el := len_tl z
  refine ite2 (fun c => ?_) (fun c => ?_)
  · have c1 : ((z.length : Nat) : Int) ≤ 40 := of_decide_eq_true c
    refine ⟨_, rfl, z, _, rfl, hz, fun H' s => ?_⟩
    have := k H' s
    unfold isText at this
    rw [decide_eq_true (by omega), Bool.true_and] at this
    exact this
  · have c1 : ¬ ((z.length : Nat) : Int) ≤ 40 := of_decide_eq_false (Bool.eq_false_iff.mpr c)
    have := k H (Same.refl H)
    unfold isText at this
    rw [decide_eq_false (by omega), Bool.false_and] at this
    exact this
theorem c_text (T : TxS K mg) (D : Dn K mg "is_text" sIsText) (G : C0 P w K mg base 1 "has_only" spHas) : C0 P w K mg base 2 "is_text" (spB isText) := by
  obtain ⟨f, fd, F, m⟩ := D.ex
  exact ⟨f, fd, _, ok_text F T G, m, F.kp, F.binds (ps := ["signs"]) fun _ _ _ _ _ _ us hl => match us, hl with | [_], _ => rfl⟩
/-! is_free -/
def isFree (l : T) : Bool := isSmall l && !(KEPTs.any fun k => k == mk l)
theorem inV_strs (z : Str) (zs : List Str) : inV (.str z) (zs.map V.str) = zs.any fun k => k == z := by
  unfold inV
  rw [List.any_map]
  rfl
theorem flat_strs (zs : List Str) : (zs.map V.str).all flatV = true := by
  rw [List.all_map]
  exact List.all_eq_true.mpr fun _ _ => rfl
theorem scFree : FnScope ["word"] ["word"] (defScope sIsFree) := ⟨rfl, rfl, rfl, by decide +kernel, rfl, by decide +kernel, by decide +kernel⟩
theorem ok_free {f : Addr} {fd : FuncData} (F : Fun K "is_free" "is_free" sIsFree f fd) (T : TxS K mg) (G : C0 P w K mg base 3 "is_small" (spB isSmall)) : FnOk P w K mg base CX0 4 f fd ["word"] (spB isFree) := by
  refine F.ok scFree (fun vs H Q E h => ?_) (fun cdv A outer s H vs Q E hr h => ?_)
  · obtain ⟨z, rfl, _⟩ := h
    rfl
  obtain ⟨z, rfl, hz, k⟩ := h
  refine ⟨_, pss_one (ps_ret (pe_and (pe_cc G hr (Nat.le_refl _) pass0 (pa_cons (pv 0) pa_nil)) (pe_one (pe_cmpR op_notIn_seq (pv 0) (pe_gt T.kept) rfl)))), ?_⟩
  refine ⟨_, rfl, z, rfl, hz, fun H1 s1 => ⟨_, rfl, ?_⟩⟩
  refine ite2 (fun c => ?_) (fun c => ?_)
  · refine ⟨_, rfl, fun a ha => ⟨a, _, rfl, .inr ha, rfl, flat_strs _, ?_⟩⟩
    have := k H1 s1
    unfold isFree at this
    rw [c, Bool.true_and, mk_tl] at this
    rw [if_pos rfl, inV_strs]
    exact this
  · have c1 : isSmall (tl z) = false := by simpa using c
    have := k H1 s1
    unfold isFree at this
    rw [c1, Bool.false_and] at this
    exact this
theorem c_free (T : TxS K mg) (D : Dn K mg "is_free" sIsFree) (G : C0 P w K mg base 3 "is_small" (spB isSmall)) : C0 P w K mg base 4 "is_free" (spB isFree) := by
  obtain ⟨f, fd, F, m⟩ := D.ex
  exact ⟨f, fd, _, ok_free F T G, m, F.kp, F.binds (ps := ["word"]) fun _ _ _ _ _ _ us hl => match us, hl with | [_], _ => rfl⟩
end
end My
namespace My
open PySem L2 SS
/-! ### numbers, words: the functions -/
def figsOf : T → T
  | 45 :: cs => cs
  | l => l
def numOf : T → Int
  | 45 :: cs => -((NumText.digitsVal cs : Nat) : Int)
  | l => ((NumText.digitsVal l : Nat) : Int)
def numStr (n : Int) : Str := Str.ofString (toString n)
def isNum (l : T) : Bool := decide (1 ≤ (figsOf l).length ∧ (figsOf l).length ≤ 13) && (hasOnly (figsOf l) FIGS && (decide (numStr (numOf l) = mk l) && (decide (-1000000000000 < numOf l) && decide (numOf l < 1000000000000))))
def BRs : List Str := [mk [40], mk [41], mk [123], mk [125], mk [91], mk [93], mk [124]]
def MARKs : List Str := [mk [43], mk [45], mk [42], mk [47], mk [60], mk [61], mk [58, 61], mk [58]]
def inS (zs : List Str) (l : T) : Bool := zs.any fun k => k == mk l
def isWord (l : T) : Bool :=
  if inS BRs l = true ∨ inS MARKs l = true then true
  else if l.head? = some 64 then isSmall (l.drop 1)
  else if l.head? = some 39 then isText (l.drop 1)
  else isSmall l || (isKindName l || isNum l)
theorem fold_lt : ∀ (cs : T) (a : Nat), NumText.AllDigits cs → cs.foldl (fun acc c => acc * 10 + (c - 48)) a < (a + 1) * 10 ^ cs.length
  | [], a, _ => by simp
  | c :: cs, a, h => by
    have hc := h c List.mem_cons_self
    have ih := fold_lt cs (a * 10 + (c - 48)) (fun d hd => h d (List.mem_cons_of_mem _ hd))
    rw [List.foldl_cons, List.length_cons]
    have e : (a * 10 + (c - 48) + 1) * 10 ^ cs.length ≤ ((a + 1) * 10) * 10 ^ cs.length := Nat.mul_le_mul_right _ (by omega)
    have e2 : (a + 1) * 10 ^ (cs.length + 1) = ((a + 1) * 10) * 10 ^ cs.length := by rw [Nat.pow_succ, Nat.mul_assoc, Nat.mul_comm 10]
    omega
theorem digits_lt {cs : T} (h : NumText.AllDigits cs) (hl : cs.length ≤ 13) : NumText.digitsVal cs < 10 ^ 13 := by
  have h1 := fold_lt cs 0 h
  have h2 : 10 ^ cs.length ≤ 10 ^ 13 := Nat.pow_le_pow_right (by decide) hl
  unfold NumText.digitsVal
  omega
theorem figs_digits {l : T} (h : hasOnly l FIGS = true) : NumText.AllDigits l := fun c hc => by
  unfold hasOnly at h
  have := of_decide_eq_true (List.all_eq_true.mp h c hc)
  simp [FIGS] at this
  omega
theorem log_small {n : Nat} (h : n < 10 ^ 13) : n.log2 < 1920 := by
  by_cases e : n = 0
  · subst e; decide
  · exact (Nat.log2_lt e).mpr (Nat.lt_of_lt_of_le h (by decide +kernel))
theorem num_facts {l : T} (h1 : 1 ≤ (figsOf l).length) (h2 : (figsOf l).length ≤ 13) (h3 : hasOnly (figsOf l) FIGS = true) : intText? (mk l) = some (numOf l) ∧ (numOf l).natAbs.log2 < 1920 ∧ (mk l).length ≤ 14 := by
  have hd := figs_digits h3
  have hne : figsOf l ≠ [] := fun z => by rw [z] at h1; simp at h1
  have hl : (mk l).length = l.length := by show l.toArray.size = _; simp
  rcases l with _ | ⟨c, cs⟩
  · simp [figsOf] at h1
  · by_cases hc : c = 45
    · subst hc
      have e : figsOf (45 :: cs) = cs := rfl
      rw [e] at h1 h2 hd hne
      refine ⟨intText_neg (cs := cs) rfl hd hne (by rw [hl, List.length_cons]; omega), ?_, by rw [hl, List.length_cons]; omega⟩
      show (-((NumText.digitsVal cs : Nat) : Int)).natAbs.log2 < 1920
      rw [Int.natAbs_neg]
      exact log_small (digits_lt hd h2)
    · have e : figsOf (c :: cs) = c :: cs := by
        unfold figsOf
        split
        · rename_i heq
          exact absurd (List.cons.inj heq).1 hc
        · rfl
      have e2 : numOf (c :: cs) = ((NumText.digitsVal (c :: cs) : Nat) : Int) := by
        unfold numOf
        split
        · rename_i heq
          exact absurd (List.cons.inj heq).1 hc
        · rfl
      rw [e] at h1 h2 hd hne
      rw [e2]
      exact ⟨intText_digits (x := mk (c :: cs)) hd hne (by rw [hl]; omega), log_small (digits_lt hd h2), by rw [hl]; omega⟩
theorem mk_len (l : T) : (mk l).length = l.length := by show l.toArray.size = _; simp
theorem removed (z : Str) : Txt.removeprefix z "-" = mk (figsOf (tl z)) := by
  obtain ⟨⟨l⟩⟩ := z
  have e0 : (Str.ofString "-") = ⟨#[45]⟩ := by decide +kernel
  show Txt.removeprefix ⟨⟨l⟩⟩ (Str.ofString "-") = mk (figsOf l)
  rw [e0]
  unfold Txt.removeprefix
  rcases l with _ | ⟨c, cs⟩
  · rfl
  · have hs : Builtin.Str.subAt ⟨⟨c :: cs⟩⟩ ⟨#[45]⟩ 0 = decide (c = 45) := by
      unfold Builtin.Str.subAt
      have : (⟨c :: cs⟩ : Array Nat).extract 0 (0 + (⟨#[45]⟩ : Str).length) = #[c] := by
        apply Array.toList_inj.mp
        simp [Str.length, Array.toList_extract, List.extract]
      show ((⟨c :: cs⟩ : Array Nat).extract 0 (0 + (⟨#[45]⟩ : Str).length) == #[45]) = _
      rw [this]
      by_cases h : c = 45
      · subst h; rfl
      · rw [decide_eq_false h]
        simp [h]
    rw [hs]
    by_cases h : c = 45
    · subst h
      rw [if_pos (by simp)]
      unfold Txt.affix
      show (if (cs.length + 1) - 1 == cs.length + 1 then _ else _) = _
      rw [if_neg (by simp)]
      unfold Builtin.Str.strSub
      show (⟨(⟨45 :: cs⟩ : Array Nat).extract 1 (cs.length + 1)⟩ : Str) = mk cs
      congr 1
      apply Array.toList_inj.mp
      simp [Array.toList_extract, List.extract]
    · rw [if_neg (by simp [h])]
      have e : figsOf (c :: cs) = c :: cs := by
        unfold figsOf
        split
        · rename_i heq
          exact absurd (List.cons.inj heq).1 h
        · rfl
      rw [e]
      rfl
theorem starts1 (z : Str) (c : Nat) : Txt.startswith z (mk [c]) = decide ((tl z).head? = some c) := by
  obtain ⟨⟨l⟩⟩ := z
  unfold Txt.startswith
  rcases l with _ | ⟨d, ds⟩
  · rfl
  · have hs : Builtin.Str.subAt ⟨⟨d :: ds⟩⟩ (mk [c]) 0 = decide (d = c) := by
      unfold Builtin.Str.subAt
      have : (⟨d :: ds⟩ : Array Nat).extract 0 (0 + (mk [c]).length) = #[d] := by
        apply Array.toList_inj.mp
        simp [Str.length, Array.toList_extract, List.extract]
      show ((⟨d :: ds⟩ : Array Nat).extract 0 (0 + (mk [c]).length) == #[c]) = _
      rw [this]
      by_cases h : d = c
      · subst h; simp
      · rw [decide_eq_false h]
        simp [h]
    rw [hs]
    show (decide (0 + 1 ≤ ds.length + 1) && decide (d = c)) = decide ((d :: ds).head? = some c)
    rw [decide_eq_true (by omega), Bool.true_and]
    simp
theorem cut1 (z : Str) : cutS z (some 1) none = mk ((tl z).drop 1) := by
  unfold cutS
  rw [HT.sIx_none]
  have h : HT.sIx z.length 0 (some 1) = min 1 z.length := HT.sIx_nat z.length 0 1
  rw [h]
  have hl := len_tl z
  have e : (List.take (z.length - min 1 z.length) (List.drop (min 1 z.length) z.cps.toList)) = (tl z).drop 1 := by
    rw [List.take_of_length_le (by rw [List.length_drop, hl]; omega)]
    by_cases h0 : z.length = 0
    · have : tl z = [] := List.eq_nil_of_length_eq_zero (by omega)
      show List.drop _ (tl z) = _
      rw [this]
      simp
    · rw [show min 1 z.length = 1 by omega]
  rw [e]
theorem cut_sl (z : Str) {a b : Nat} (h : b ≤ z.length) : cutS z (some (a : Nat)) (some (b : Nat)) = mk (sl (tl z) a b) := by
  unfold cutS
  rw [HT.sIx_nat, HT.sIx_nat]
  have hl := len_tl z
  unfold sl
  by_cases ha : a ≤ z.length
  · rw [show min a z.length = a by omega, show min b z.length = b by omega]
  · have e1 : (tl z).drop a = [] := List.drop_eq_nil_of_le (by omega)
    rw [e1, List.drop_eq_nil_of_le (by rw [hl]; omega)]
    simp
theorem dec_str (a b : Str) : decide (V.str a = V.str b) = decide (a = b) := by
  by_cases h : a = b
  · subst h; simp
  · rw [decide_eq_false h, decide_eq_false (fun z => h (V.str.inj z))]
section
variable {P : Program} {w : World} {K : PySem.W.Frag} {mg : Str → Option Value} {base : Heap}
theorem scNum : FnScope ["word", "figures", "number"] ["word"] (defScope sIsNum) := ⟨rfl, rfl, rfl, by decide +kernel, rfl, by decide +kernel, by decide +kernel⟩
theorem big_len : (Str.ofString (toString (1000000000000 : Int))).length = 13 := by decide +kernel
theorem ok_num {f : Addr} {fd : FuncData} (F : Fun K "is_number" "is_number" sIsNum f fd) (T : TxS K mg) (G : C0 P w K mg base 1 "has_only" spHas) : FnOk P w K mg base CX0 2 f fd ["word"] (spB isNum) := by
  refine F.ok scNum (fun vs H Q E h => ?_) (fun cdv A outer s H vs Q E hr h => ?_)
  · obtain ⟨z, rfl, _⟩ := h
    rfl
  obtain ⟨z, rfl, hz, k⟩ := h
  have hsz : z.length ≤ sizeLine := by rw [sizeLine_eq]; omega
  have hl := len_tl z
  have hfl : (figsOf (tl z)).length ≤ z.length := by
    unfold figsOf
    split
    · rename_i cs heq
      have := congrArg List.length heq
      rw [List.length_cons] at this
      omega
    · omega
  refine ⟨_, pss_cons (ps_set (i := 1) scNum.nd rfl (Or.inl rfl) (pe_m1 PySem.F.slot_str_removeprefix PySem.F.type_str_removeprefix mt_removeprefix (pv 0) pe_str))
    (pss_cons (ps_if (PW.pt (pw_or (pt_not (pt_chain op_le op_le pe_int (pe_callB call_len_str (by rfl) T.len PySem.boot_len (pa_cons (pv 1) pa_nil)) (pe_callB call_len_str (by rfl) T.len PySem.boot_len (pa_cons (pe_callTy call_str_int (by rfl) T.str (by decide +kernel) (pa_cons (pe_gi T.big) pa_nil)) pa_nil))))
        (pw_or1 (pt_not (pt_val (pe_cc G hr (Nat.le_refl _) pass0 (pa_cons (pv 1) (pa_cons (pe_gs T.figs) pa_nil)))))))) (pss_one (ps_ret pe_bl)) pss_nil)
    (pss_cons (ps_set (i := 2) scNum.nd rfl (Or.inl rfl) (pe_callTy call_int_str (by rfl) T.int (by decide +kernel) (pa_cons (pv 0) pa_nil)))
    (pss_one (ps_ret (pe_and (pe_cmpR op_eq (pe_callTy call_str_int (by rfl) T.str (by decide +kernel) (pa_cons (pv 2) pa_nil)) (pv 0) (nomark _)) (pe_one (pe_chain op_lt op_lt (pe_un un_neg (pe_gi T.big)) (pv 2) (pe_gi T.big)))))))), ?_⟩
  refine ⟨_, rfl, ⟨_, rfl⟩, _, _, rfl, rfl, hsz, ?_⟩
  rw [removed]
  -- the answer where the figures are not as many, or none
  have no : ∀ H', Same H H' → ((¬ (1 ≤ (figsOf (tl z)).length ∧ (figsOf (tl z)).length ≤ 13)) ∨ hasOnly (figsOf (tl z)) FIGS = false) → Q (.bl false) H' := fun H' s o => by
    have := k H' s
    unfold isNum at this
    rcases o with o | o
    · rw [decide_eq_false o, Bool.false_and] at this
      exact this
    · rw [o, Bool.false_and, Bool.and_false] at this
      exact this
  refine ⟨_, rfl, _, rfl, by rw [mk_len, sizeLine_eq]; omega, _, _, rfl, rfl, _, rfl, ?_⟩
  rw [mk_len]
  refine ite2 (fun c => ?_) (fun c => ?_)
  · have c1 : (1 : Int) ≤ ((figsOf (tl z)).length : Nat) := of_decide_eq_true c
    refine ⟨_, rfl, by decide +kernel, _, rfl, by rw [sizeLine_eq]; decide +kernel, _, _, rfl, rfl, _, rfl, ?_⟩
    rw [big_len]
    refine ite2 (fun c2 => ?_) (fun c2 => ?_)
    · have c3 : ¬ (((figsOf (tl z)).length : Nat) : Int) ≤ (13 : Nat) := by simpa using c2
      exact iteT (no H (Same.refl H) (.inl (by omega)))
    · have c3 : (((figsOf (tl z)).length : Nat) : Int) ≤ (13 : Nat) := by simpa using c2
      refine ⟨_, rfl, _, _, rfl, by rw [mk_len]; omega, fun H1 s1 => ⟨_, rfl, ?_⟩⟩
      refine ite2 (fun c4 => ?_) (fun c4 => ?_)
      · have c5 : hasOnly (figsOf (tl z)) FIGS = false := by simpa using c4
        exact no H1 s1 (.inr c5)
      · have c5 : hasOnly (figsOf (tl z)) FIGS = true := by simpa using c4
        obtain ⟨n1, n2, n3⟩ := num_facts (l := tl z) (by omega) (by omega) c5
        rw [mk_tl] at n1 n3
        refine ⟨_, rfl, z, _, rfl, n1, by omega, ?_⟩
        refine ⟨_, rfl, _, rfl, n2, _, rfl, rfl, _, rfl, ?_⟩
        have e : isNum (tl z) = (decide (numStr (numOf (tl z)) = z) && (decide (-1000000000000 < numOf (tl z)) && decide (numOf (tl z) < 1000000000000))) := by
          unfold isNum
          rw [decide_eq_true (by omega), c5, mk_tl]
          rfl
        have k1 := k H1 s1
        rw [e] at k1
        rw [dec_str]
        show if decide (numStr (numOf (tl z)) = z) = true then _ else _
        refine ite2 (fun c6 => ?_) (fun c6 => ?_)
        · rw [c6, Bool.true_and] at k1
          refine ⟨_, rfl, _, rfl, _, _, rfl, rfl, _, rfl, ?_⟩
          refine ite2 (fun c7 => ?_) (fun c7 => ?_)
          · have c8 : decide (-1000000000000 < numOf (tl z)) = true := c7
            rw [c8, Bool.true_and] at k1
            exact ⟨_, _, rfl, rfl, k1⟩
          · have c8 : decide (-1000000000000 < numOf (tl z)) = false := by simpa using c7
            rw [c8, Bool.false_and] at k1
            exact k1
        · have c8 : decide (numStr (numOf (tl z)) = z) = false := by simpa using c6
          rw [c8, Bool.false_and] at k1
          exact k1
  · have c1 : ¬ (1 : Int) ≤ ((figsOf (tl z)).length : Nat) := of_decide_eq_false (Bool.eq_false_iff.mpr c)
    exact ⟨false, rfl, iteT (iteT (no H (Same.refl H) (.inl (by omega))))⟩
end
end My
namespace My
open PySem L2 SS
/-! ### things that stand in tuples -/
def AtT {α : Type} (f : α → List V) (H : Hp) (v : V) (q : α) : Prop := ∃ p, v = .ref p ∧ H p = some (.tup (f q))
inductive AllT {α : Type} (f : α → List V) (H : Hp) : List V → List α → Prop
  | nil : AllT f H [] []
  | cons {v : V} {q : α} {vs : List V} {qs : List α} : AtT f H v q → AllT f H vs qs → AllT f H (v :: vs) (q :: qs)
/-- tuples stand -/
def Tups (H H' : Hp) : Prop := ∀ p xs, H p = some (.tup xs) → H' p = some (.tup xs)
theorem same_tups {H H' : Hp} (s : Same H H') : Tups H H' := fun p xs h => s p _ h
theorem Tups.trans {H H1 H2 : Hp} (a : Tups H H1) (b : Tups H1 H2) : Tups H H2 := fun p xs h => b p xs (a p xs h)
theorem tups_new {H : Hp} {p : Addr} (h : H p = none) (o : HO) : Tups H (upd H p o) := same_tups (same_new h o)
theorem tups_lst {H : Hp} {p : Addr} {xs ys : List V} (h : H p = some (.lst xs)) : Tups H (upd H p (.lst ys)) := fun b u q => by
  rw [upd_ne (ne_of q h (by intro z; cases z))]; exact q
section
variable {α : Type} {f : α → List V} {H H' : Hp}
theorem AllT.on : ∀ {vs : List V} {qs : List α}, AllT f H vs qs → Tups H H' → AllT f H' vs qs
  | _, _, .nil, _ => .nil
  | _, _, .cons ⟨p, e, h⟩ r, t => .cons ⟨p, e, t _ _ h⟩ (r.on t)
theorem AllT.append : ∀ {vs ws : List V} {qs rs : List α}, AllT f H vs qs → AllT f H ws rs → AllT f H (vs ++ ws) (qs ++ rs)
  | _, _, _, _, .nil, h => h
  | _, _, _, _, .cons a r, h => .cons a (r.append h)
theorem AllT.length : ∀ {vs : List V} {qs : List α}, AllT f H vs qs → vs.length = qs.length
  | _, _, .nil => rfl
  | _, _, .cons _ r => by rw [List.length_cons, List.length_cons, r.length]
theorem AllT.get : ∀ {vs : List V} {qs : List α} {i : Nat} {v : V}, AllT f H vs qs → vs[i]? = some v → ∃ q, qs[i]? = some q ∧ AtT f H v q
  | _, _, i, v, .nil, h => by simp at h
  | _, _, 0, v, .cons a r, h => by simp at h; subst h; exact ⟨_, rfl, a⟩
  | _, _, i + 1, v, .cons a r, h => by
    obtain ⟨q, h1, h2⟩ := r.get (i := i) (v := v) (by simpa using h)
    exact ⟨q, by simpa using h1, h2⟩
/-- a list that is being made, its items in tuples -/
def LS (f : α → List V) (H H1 : Hp) (l : Addr) (ps : List α) : Prop := Same H H1 ∧ H l = none ∧ ∃ vs, H1 l = some (.lst vs) ∧ AllT f H1 vs ps
theorem LS.new {H1 : Hp} {l p : Addr} {ps : List α} (h : LS f H H1 l ps) (n : H1 p = none) (o : HO) : LS f H (upd H1 p o) l ps := by
  obtain ⟨s, hl, vs, h1, h2⟩ := h
  exact ⟨s.trans (same_new n o), hl, vs, by rw [upd_ne (ne_of_none h1 n)]; exact h1, h2.on (tups_new n o)⟩
theorem LS.push {H1 : Hp} {l p : Addr} {ps : List α} {q : α} (h : LS f H H1 l ps) (hp : H1 p = some (.tup (f q))) : ∃ vs, H1 l = some (.lst vs) ∧ vs.length = ps.length ∧ LS f H (upd H1 l (.lst (vs ++ [.ref p]))) l (ps ++ [q]) := by
  obtain ⟨s, hl, vs, h1, h2⟩ := h
  refine ⟨vs, h1, h2.length, fun b u e => ?_, hl, _, upd_same, ?_⟩
  · rw [upd_ne (ne_of_none e hl)]
    exact s b u e
  · have t : Tups H1 (upd H1 l (.lst (vs ++ [.ref p]))) := tups_lst h1
    exact (h2.on t).append (.cons ⟨p, rfl, t _ _ hp⟩ .nil)
end
def fP (q : List Nat × Nat) : List V := [.str (mk q.1), .int (q.2 : Nat)]
def fW (q : W) : List V := [.str (mk q.1), .int (q.2.1 : Nat), .int (q.2.2 : Nat)]
section
variable {P : Program} {w : World} {K : PySem.W.Frag} {mg : Str → Option Value} {base : Heap}
/-! ### is_word -/
theorem scWord : FnScope ["word"] ["word"] (defScope sIsWord) := ⟨rfl, rfl, rfl, by decide +kernel, rfl, by decide +kernel, by decide +kernel⟩
theorem s_at : (Str.ofString "@") = mk [64] := by decide +kernel
theorem s_quote : (Str.ofString "'") = mk [39] := by decide +kernel
theorem ok_word {f : Addr} {fd : FuncData} (F : Fun K "is_word" "is_word" sIsWord f fd) (T : TxS K mg) (G1 : C0 P w K mg base 3 "is_small" (spB isSmall)) (G2 : C0 P w K mg base 3 "is_kind_name" (spB isKindName)) (G3 : C0 P w K mg base 2 "is_text" (spB isText)) (G4 : C0 P w K mg base 2 "is_number" (spB isNum)) :
    FnOk P w K mg base CX0 4 f fd ["word"] (spB isWord) := by
  refine F.ok scWord (fun vs H Q E h => ?_) (fun cdv A outer s H vs Q E hr h => ?_)
  · obtain ⟨z, rfl, _⟩ := h
    rfl
  obtain ⟨z, rfl, hz, k⟩ := h
  have hsz : z.length ≤ sizeLine := by rw [sizeLine_eq]; omega
  have hl := len_tl z
  refine ⟨_, pss_cons (ps_if (PW.pt (pw_or (pt_cmpR op_in_seq (pv 0) (pe_gt T.br) rfl) (pw_or1 (pt_cmpR op_in_seq (pv 0) (pe_gt T.marks) rfl)))) (pss_one (ps_ret pe_bl)) pss_nil)
    (pss_cons (ps_if (pt_val (pe_m1 PySem.F.slot_str_startswith PySem.F.type_str_startswith mt_startswith (pv 0) pe_str)) (pss_one (ps_ret (pe_cc G1 hr (by decide) pass0 (pa_cons (pe_slice sl_str (pv 0) (po_some pe_int) po_none) pa_nil)))) pss_nil)
    (pss_cons (ps_if (pt_val (pe_m1 PySem.F.slot_str_startswith PySem.F.type_str_startswith mt_startswith (pv 0) pe_str)) (pss_one (ps_ret (pe_cc G3 hr (by decide) pass0 (pa_cons (pe_slice sl_str (pv 0) (po_some pe_int) po_none) pa_nil)))) pss_nil)
    (pss_one (ps_ret (pe_or (pe_cc G1 hr (by decide) pass0 (pa_cons (pv 0) pa_nil)) (pe_or (pe_cc G2 hr (by decide) pass0 (pa_cons (pv 0) pa_nil)) (pe_one (pe_cc G4 hr (by decide) pass0 (pa_cons (pv 0) pa_nil))))))))), ?_⟩
  have hin : ∀ zs : List Str, inV (.str z) (zs.map V.str) = inS zs (tl z) := fun zs => by
    rw [inV_strs]
    unfold inS
    rw [mk_tl]
  refine ⟨_, rfl, fun a ha => ⟨a, _, rfl, .inr ha, rfl, flat_strs _, _, rfl, ?_⟩⟩
  have yes : inS BRs (tl z) = true ∨ inS MARKs (tl z) = true → isWord (tl z) = true := fun o => by
    unfold isWord
    rw [if_pos o]
  rw [if_neg (by decide : ¬ false = true), hin]
  have e1 : inS [mk [40], mk [41], mk [123], mk [125], mk [91], mk [93], mk [124]] (tl z) = inS BRs (tl z) := rfl
  have e2 : inS [mk [43], mk [45], mk [42], mk [47], mk [60], mk [61], mk [58, 61], mk [58]] (tl z) = inS MARKs (tl z) := rfl
  rw [e1]
  refine ite2 (fun c => ?_) (fun c => ?_)
  · refine iteT ?_
    have := k H (Same.refl H)
    rw [yes (.inl c)] at this
    exact this
  refine ⟨_, rfl, fun a ha => ⟨a, _, rfl, .inr ha, rfl, flat_strs _, _, rfl, ?_⟩⟩
  rw [if_neg (by decide : ¬ false = true), hin, e2]
  refine ite2 (fun c2 => ?_) (fun c2 => ?_)
  · have := k H (Same.refl H)
    rw [yes (.inr c2)] at this
    exact this
  have no : ¬ (inS BRs (tl z) = true ∨ inS MARKs (tl z) = true) := fun o => o.elim c c2
  refine ⟨_, rfl, ⟨_, rfl⟩, _, _, rfl, rfl, _, rfl, ?_⟩
  rw [s_at, starts1]
  refine ite2 (fun c3 => ?_) (fun c3 => ?_)
  · have c4 := of_decide_eq_true c3
    refine ⟨_, rfl, _, rfl, z, rfl, hsz, ?_⟩
    rw [cut1]
    refine ⟨_, rfl, ?_, fun H' s => ?_⟩
    · rw [mk_len, List.length_drop]
      omega
    · have := k H' s
      unfold isWord at this
      rw [if_neg no, if_pos c4] at this
      exact this
  have c4 : ¬ (tl z).head? = some 64 := of_decide_eq_false (Bool.eq_false_iff.mpr c3)
  refine ⟨_, rfl, ⟨_, rfl⟩, _, _, rfl, rfl, _, rfl, ?_⟩
  rw [s_quote, starts1]
  refine ite2 (fun c5 => ?_) (fun c5 => ?_)
  · have c6 := of_decide_eq_true c5
    refine ⟨_, rfl, _, rfl, z, rfl, hsz, ?_⟩
    rw [cut1]
    refine ⟨_, rfl, ?_, fun H' s => ?_⟩
    · rw [mk_len, List.length_drop]
      omega
    · have := k H' s
      unfold isWord at this
      rw [if_neg no, if_neg c4, if_pos c6] at this
      exact this
  have c6 : ¬ (tl z).head? = some 39 := of_decide_eq_false (Bool.eq_false_iff.mpr c5)
  have e : isWord (tl z) = (isSmall (tl z) || (isKindName (tl z) || isNum (tl z))) := by
    unfold isWord
    rw [if_neg no, if_neg c4, if_neg c6]
  refine ⟨_, rfl, z, rfl, hz, fun H1 s1 => ⟨_, rfl, ?_⟩⟩
  refine ite2 (fun c7 => ?_) (fun c7 => ?_)
  · have := k H1 s1
    rw [e, c7, Bool.true_or] at this
    exact this
  have d7 : isSmall (tl z) = false := by simpa using c7
  refine ⟨_, rfl, z, rfl, hz, fun H2 s2 => ⟨_, rfl, ?_⟩⟩
  refine ite2 (fun c8 => ?_) (fun c8 => ?_)
  · have := k H2 (s1.trans s2)
    rw [e, c8, Bool.true_or, Bool.or_true] at this
    exact this
  have d8 : isKindName (tl z) = false := by simpa using c8
  refine ⟨_, rfl, z, rfl, hz, fun H3 s3 => ?_⟩
  have := k H3 ((s1.trans s2).trans s3)
  rw [e, d7, d8, Bool.false_or, Bool.false_or] at this
  exact this
/-! ### words_of_row -/
def spRow : Sp := fun vs H Q _ => ∃ z : Str, vs = [.str z] ∧ z.length ≤ 100000 ∧ ∀ (H' : Hp) (l : Addr) (us : List V), Same H H' → H l = none → H' l = some (.lst us) → AllT fP H' us (rowWords (tl z)) → Q (.ref l) H'
theorem scRow : FnScope ["line", "parts", "start", "at", "sign"] ["line"] (defScope sRow) := ⟨rfl, rfl, rfl, by decide +kernel, rfl, by decide +kernel, by decide +kernel⟩
def RowInv (L : List Nat) (i a : Nat) (ps : List (List Nat × Nat)) : Prop := (i ≤ L.length ∧ a ≤ i ∧ ps ++ rw_ (sl L a i) (i + 1) (L.drop i) = rowWords L) ∨ (i = L.length + 1 ∧ ps = rowWords L)
theorem RowInv.len {L : List Nat} {i a : Nat} {ps : List (List Nat × Nat)} (h : RowInv L i a ps) : ps.length ≤ 2 * L.length := by
  have := rowWords_len L
  rcases h with ⟨_, _, h⟩ | ⟨_, h⟩
  · rw [← h, List.length_append] at this
    omega
  · rw [h]; exact this
theorem s_blank : (Str.ofString " ") = mk [32] := by decide +kernel
theorem sep_in (c : Nat) : inS BRs [c] = decide (c ∈ BR) := by
  have e : ∀ d : Nat, ((mk [d]) == mk [c]) = decide (c = d) := fun d => by
    by_cases h : c = d
    · subst h; simp
    · rw [decide_eq_false h]
      apply beq_eq_false_iff_ne.mpr
      intro z
      have z2 := congrArg (fun s => s.cps.toList) z
      simp at z2
      exact h z2.symm
  unfold inS BRs BR
  simp only [List.any_cons, List.any_nil, e, List.mem_cons, List.not_mem_nil, Bool.decide_or, Bool.or_false, or_false]
theorem ok_row {f : Addr} {fd : FuncData} (F : Fun K "words_of_row" "words_of_row" sRow f fd) (T : TxS K mg) : FnOk P w K mg base CX0 1 f fd ["line"] spRow := by
  refine F.ok scRow (fun vs H Q E h => ?_) (fun cdv A outer s H vs Q E hr h => ?_)
  · obtain ⟨z, rfl, _⟩ := h
    rfl
  obtain ⟨z, rfl, hz, k⟩ := h
  have hsz : z.length ≤ sizeLine := by rw [sizeLine_eq]; omega
  have hl := len_tl z
  refine ⟨_, pss_cons (ps_set (i := 1) scRow.nd rfl (Or.inl rfl) (pe_lst pa_nil)) (pss_cons (ps_set (i := 2) scRow.nd rfl (Or.inl rfl) pe_int)
    (pss_cons (ps_for PassesOwn.never rfl (pi_enumX (by rfl) T.enum (pa_cons (pe_op op_add_str (pv 0) pe_str) pa_nil)) (pg_tup (by rfl) (pgs_cons (pg_name (i := 3) scRow.nd rfl (Or.inl rfl)) (pgs_cons (pg_name (i := 4) scRow.nd rfl (Or.inl rfl)) pgs_nil)))
      (pss_one (ps_if (PW.pt (pw_or (pt_cmpR op_eq (pv 4) pe_str (nomark _)) (pw_or1 (pt_cmpR op_in_seq (pv 4) (pe_gt T.br) rfl))))
        (C8.pss_cut (ps_if (pt_cmpR op_lt (pv 2) (pv 3) (nomark _)) (pss_one (ps_expr (pe_bm PySem.F.plainAttrs_list PySem.F.slot_list_append PySem.F.type_list_append mt_append (pv 1) (pa_cons (pe_tup (pa_cons (pe_slice sl_str (pv 0) (po_some (pv 2)) (po_some (pv 3))) (pa_cons (pe_op op_add (pv 2) pe_int) pa_nil))) pa_nil)))) pss_nil)
        (C8.pss_cut (ps_if (pt_cmpR op_ne (pv 4) pe_str (nomark _)) (pss_one (ps_expr (pe_bm PySem.F.plainAttrs_list PySem.F.slot_list_append PySem.F.type_list_append mt_append (pv 1) (pa_cons (pe_tup (pa_cons (pv 4) (pa_cons (pe_op op_add (pv 3) pe_int) pa_nil))) pa_nil)))) pss_nil)
        (pss_one (ps_set (i := 2) scRow.nd rfl (Or.inl rfl) (pe_op op_add (pv 3) pe_int))))) pss_nil)))
    (pss_one (ps_ret (pv 1))))), ?_⟩
  refine ⟨Nat.zero_le _, fun l hl0 => ?_⟩
  have hzb : (z ++ Str.ofString " ").cps.toList = tl z ++ [32] := by
    rw [s_blank]
    show (z.cps ++ #[32]).toList = _
    simp
  refine ⟨_, rfl, _, _, rfl, rfl, ?_, _, rfl, ?_⟩
  · have e : (Str.ofString " ").length = 1 := by decide +kernel
    rw [e, sizeLine_eq]
    omega
  have hn : (z ++ Str.ofString " ").cps.size = z.length + 1 := by
    rw [← Array.length_toList, hzb, List.length_append, hl]
    rfl
  refine for_it walk_enumX (fun i σ H1 => ∃ (a : Nat) (ps : List (List Nat × Nat)) (v3 v4 : Option V), σ = [some (.str z), some (.ref l), some (.int (a : Nat)), v3, v4] ∧ LS fP H H1 l ps ∧ RowInv (tl z) i a ps)
    ⟨0, [], none, none, rfl, ⟨same_new hl0 _, hl0, [], upd_same, .nil⟩, .inl ⟨Nat.zero_le _, Nat.le_refl _, rfl⟩⟩ (fun _ _ _ _ _ => trivial) ?_ ?_
  · rintro i x σ H1 H2 hi ⟨a, ps, v3, v4, rfl, hL, hR⟩ ⟨T0, c, rfl, hT0, rfl, hc⟩
    rw [hn] at hi
    have hcl : (tl z ++ [32])[i]? = some c := by
      rw [← hzb]
      simpa using hc
    have hps := hR.len
    have hR0 : i ≤ (tl z).length ∧ a ≤ i ∧ ps ++ rw_ (sl (tl z) a i) (i + 1) ((tl z).drop i) = rowWords (tl z) := by
      rcases hR with h | ⟨h, _⟩
      · exact h
      · omega
    obtain ⟨hi1, hai, hI⟩ := hR0
    have hL1 := hL.new hT0 (.tup [.int (i : Nat), .str ⟨#[c]⟩])
    refine ⟨T0, _, rfl, SqT.of upd_same, rfl, _, _, rfl, _, _, rfl, rfl, ?_⟩
    refine ⟨_, rfl, rfl, _, rfl, ?_⟩
    have e32 : decide (V.str (⟨#[c]⟩ : Str) = V.str (Str.ofString " ")) = decide (c = 32) := by
      rw [dec_str, s_blank]
      by_cases h : c = 32
      · subst h; rfl
      · rw [decide_eq_false h]
        apply decide_eq_false
        intro q
        have q2 := congrArg (fun s => s.cps.toList) q
        simp at q2
        exact h q2
    have ein : inV (.str (⟨#[c]⟩ : Str)) (BRs.map V.str) = decide (c ∈ BR) := by
      rw [inV_strs, ← sep_in]
      rfl
    rw [e32]
    generalize hHH : upd H1 T0 (.tup [.int (i : Nat), .str ⟨#[c]⟩]) = HH at hL1 ⊢
    refine (fun (key : isSep c = true → _) => ite2 (fun c1 => key (by unfold isSep; rw [c1]; rfl)) (fun c1 => ⟨_, rfl, fun b hb => ⟨b, BRs.map V.str, rfl, .inr hb, rfl, flat_strs _, _, rfl, ite2 (fun c2 => key ?_) (fun c2 => ?_)⟩⟩)) ?key
    case key =>
      intro hs
      refine iteT ?_
      have hsl : ∀ q : List (List Nat × Nat), q.length ≤ 2 * (tl z).length → q.length < sizeLine := fun q hq => by
        rw [sizeLine_eq]
        omega
      obtain ⟨ps1, h1⟩ : ∃ x, x = ps ++ (if a < i then [(sl (tl z) a i, a + 1)] else []) := ⟨_, rfl⟩
      obtain ⟨ps2, h2⟩ : ∃ x, x = ps1 ++ (if c = 32 then [] else [([c], i + 1)]) := ⟨_, rfl⟩
      have fin : RowInv (tl z) (i + 1) (i + 1) ps2 := by
        rcases Nat.lt_or_ge i (tl z).length with h | h
        · have hcc : (tl z)[i]? = some c := by
            rw [List.getElem?_append_left h] at hcl
            exact hcl
          rw [h2, h1]
          exact .inl ⟨h, Nat.le_refl _, turn_sep hai hcc hs hI⟩
        · have hi2 : i = (tl z).length := by omega
          have hc32 : c = 32 := by
            rw [List.getElem?_append_right (by omega), hi2] at hcl
            simp at hcl
            exact hcl.symm
          refine .inr ⟨by omega, ?_⟩
          rw [h2, h1, if_pos hc32, List.append_nil]
          subst hi2
          exact turn_last hai hI
      have l2 : ps2.length ≤ 2 * (tl z).length := fin.len
      have l1 : ps1.length ≤ ps2.length := by
        rw [h2, List.length_append]
        omega
      refine ⟨fun σ' HX => σ' = [some (.str z), some (.ref l), some (.int (a : Nat)), some (.int (i : Nat)), some (.str ⟨#[c]⟩)] ∧ LS fP H HX l ps1, ?_, ?_⟩
      · refine ⟨_, rfl, _, rfl, _, _, rfl, rfl, _, rfl, ?_⟩
        refine ite2 (fun d => ?_) (fun d => ?_)
        · have d1 : a < i := by
            have := of_decide_eq_true d
            omega
          have e1 : ps1 = ps ++ [(sl (tl z) a i, a + 1)] := by
            rw [h1, if_pos d1]
          obtain ⟨us, hus, _⟩ := hL1.2.2
          refine ⟨_, rfl, .inl ⟨rfl, _, SqL.of hus⟩, ?_⟩
          refine ⟨_, rfl, _, rfl, _, rfl, _, rfl, _, rfl, z, rfl, hsz, ?_⟩
          have hcut := cut_sl z (a := a) (b := i) (by omega)
          rw [hcut]
          refine ⟨_, rfl, _, _, rfl, rfl, by show 2 ≤ sizeLine; decide, fun p hp => ?_⟩
          have hL2 := hL1.new hp (.tup (fP (sl (tl z) a i, a + 1)))
          obtain ⟨ws, hw1, hw2, hw3⟩ := hL2.push (p := p) (q := (sl (tl z) a i, a + 1)) upd_same
          refine ⟨l, ws, .ref p, rfl, rfl, hw1, ?_, rfl, ?_⟩
          · rw [hw2]
            refine hsl _ ?_
            have : ps1.length = ps.length + 1 := by rw [e1]; simp
            omega
          · rw [e1]
            exact hw3
        · have d1 : ¬ a < i := by
            have := of_decide_eq_false (Bool.eq_false_iff.mpr d)
            omega
          have e1 : ps1 = ps := by
            rw [h1, if_neg d1, List.append_nil]
          refine ⟨rfl, ?_⟩
          rw [e1]
          exact hL1
      · rintro σ' HX ⟨rfl, hX⟩
        refine ⟨fun σ' HY => σ' = [some (.str z), some (.ref l), some (.int (a : Nat)), some (.int (i : Nat)), some (.str ⟨#[c]⟩)] ∧ LS fP H HY l ps2, ?_, ?_⟩
        · refine ⟨_, rfl, rfl, _, rfl, ?_⟩
          rw [e32]
          refine ite2 (fun d => ?_) (fun d => ?_)
          · have d1 : ¬ c = 32 := by simpa using d
            have e2 : ps2 = ps1 ++ [([c], i + 1)] := by
              rw [h2, if_neg d1]
            obtain ⟨us, hus, _⟩ := hX.2.2
            refine ⟨_, rfl, .inl ⟨rfl, _, SqL.of hus⟩, ?_⟩
            refine ⟨_, rfl, _, rfl, _, _, rfl, rfl, by show 2 ≤ sizeLine; decide, fun p hp => ?_⟩
            have hX2 := hX.new hp (.tup (fP ([c], i + 1)))
            obtain ⟨ws, hw1, hw2, hw3⟩ := hX2.push (p := p) (q := ([c], i + 1)) upd_same
            refine ⟨l, ws, .ref p, rfl, rfl, hw1, ?_, rfl, ?_⟩
            · rw [hw2]
              refine hsl _ ?_
              have : ps2.length = ps1.length + 1 := by rw [e2]; simp
              omega
            · rw [e2]
              exact hw3
          · have d1 : c = 32 := by simpa using d
            have e2 : ps2 = ps1 := by
              rw [h2, if_pos d1, List.append_nil]
            refine ⟨rfl, ?_⟩
            rw [e2]
            exact hX
        · rintro σ' HY ⟨rfl, hY⟩
          refine ⟨_, rfl, _, _, rfl, rfl, ?_⟩
          exact ⟨i + 1, ps2, _, _, rfl, hY, fin⟩
    · rw [if_neg (by decide : ¬ false = true), ein] at c2
      unfold isSep
      rw [c2, Bool.or_true]
    · rw [if_neg (by decide : ¬ false = true), ein] at c2
      have hs : isSep c = false := by
        unfold isSep
        have c3 : decide (c = 32) = false := by simpa using c1
        have c4 : decide (c ∈ BR) = false := by simpa using c2
        rw [c3, c4]
        rfl
      have hlt : i < (tl z).length := by
        rcases Nat.lt_or_ge i (tl z).length with h | h
        · exact h
        · have : i = (tl z).length := by omega
          subst this
          rw [List.getElem?_append_right (by omega)] at hcl
          simp at hcl
          subst hcl
          exact absurd hs (by decide)
      have hcc : (tl z)[i]? = some c := by
        rw [List.getElem?_append_left hlt] at hcl
        exact hcl
      exact ⟨a, ps, _, _, rfl, hL1, .inl ⟨hlt, by omega, turn_on hai hcc hs hI⟩⟩
  · rintro σ H1 ⟨a, ps, v3, v4, rfl, ⟨s1, h1, us, h2, h3⟩, hR⟩
    rw [hn] at hR
    refine ⟨_, rfl, k H1 l us s1 hl0 h2 ?_⟩
    rcases hR with ⟨h, _⟩ | ⟨_, h⟩
    · omega
    · rw [← h]; exact h3
end
end My
namespace My
open PySem L2 SS
def oN : Option Nat → V
  | none => .non
  | some c => .int (c : Nat)
theorem foldMin : ∀ (ns : List Int) (n : Int), (ns.foldl min n) ∈ n :: ns ∧ ∀ y ∈ n :: ns, ns.foldl min n ≤ y
  | [], n => by simp
  | k :: r, n => by
    have ih := foldMin r (min n k)
    rw [List.foldl_cons]
    constructor
    · rcases List.mem_cons.mp ih.1 with h | h
      · rw [h]
        by_cases c : n ≤ k
        · rw [Int.min_eq_left c]; simp
        · rw [Int.min_eq_right (by omega)]; simp
      · exact List.mem_cons_of_mem _ (List.mem_cons_of_mem _ h)
    · intro y hy
      have h0 := ih.2 (min n k) List.mem_cons_self
      rcases List.mem_cons.mp hy with h | h
      · subst h; omega
      · rcases List.mem_cons.mp h with h | h
        · subst h; omega
        · exact ih.2 y (List.mem_cons_of_mem _ h)
theorem minOf_ints {c : Nat} {r : List Nat} {m : Int} (h : m = (r.map fun (k : Nat) => (k : Int)).foldl min ((c : Nat) : Int)) : ∃ k, minOf (c :: r) = some k ∧ m = (k : Nat) := by
  have f := foldMin (r.map fun (k : Nat) => (k : Int)) ((c : Nat) : Int)
  rw [← h] at f
  have e : ((c : Nat) : Int) :: (r.map fun (k : Nat) => (k : Int)) = (c :: r).map fun (k : Nat) => (k : Int) := rfl
  rw [e] at f
  obtain ⟨k, hk, ek⟩ := List.mem_map.mp f.1
  refine ⟨k, minOf_some.mpr ⟨hk, fun y hy => ?_⟩, ek.symm⟩
  have := f.2 ((y : Nat) : Int) (List.mem_map.mpr ⟨y, hy, rfl⟩)
  omega
section
variable {P : Program} {w : World} {K : PySem.W.Frag} {mg : Str → Option Value} {base : Heap}
def spWrong : Sp := fun vs H Q _ => ∃ (a : Addr) (n : Nat) (us : List V) (ps : List (List Nat × Nat)), vs = [.ref a, .int (n : Nat)] ∧ H a = some (.lst us) ∧ AllT fP H us ps ∧ (∀ q ∈ ps, q.1.length ≤ 100000) ∧ ps.length ≤ 300000 ∧ ∀ H', Same H H' → Q (oN (wrongCol isWord ps n)) H'
theorem scWrong : FnScope ["parts", "length", "columns", "word", "column"] ["parts", "length"] (defScope sWrong) := ⟨rfl, rfl, rfl, by decide +kernel, rfl, by decide +kernel, by decide +kernel⟩
theorem alike_ints (ns : List Int) : PySem.W.AlikeAll (ns.map PyData.int) := by
  refine ⟨fun x hx y hy => ?_, fun x hx => ?_⟩
  · obtain ⟨a, _, rfl⟩ := List.mem_map.mp hx
    obtain ⟨b, _, rfl⟩ := List.mem_map.mp hy
    rfl
  · obtain ⟨a, _, rfl⟩ := List.mem_map.mp hx
    intro z
    cases z
theorem depth_ints : ∀ ns : List Int, PyData.depthAll (ns.map PyData.int) ≤ 20
  | [] => by decide
  | n :: r => by
    have := depth_ints r
    show max (PyData.depth (.int n)) (PyData.depthAll (r.map PyData.int)) ≤ 20
    exact Nat.max_le.mpr ⟨by show 0 ≤ 20; decide, this⟩
theorem dp_ints {H : Hp} : ∀ ns : List Int, DpAll K H (ns.map V.int) (ns.map PyData.int)
  | [] => .nil
  | n :: r => .cons (.int n) (dp_ints r)
theorem ok_wrong {f : Addr} {fd : FuncData} (F : Fun K "wrong_column" "wrong_column" sWrong f fd) (T : TxS K mg) (G : C0 P w K mg base 4 "is_word" (spB isWord)) : FnOk P w K mg base CX0 5 f fd ["parts", "length"] spWrong := by
  refine F.ok scWrong (fun vs H Q E h => ?_) (fun cdv A outer s H vs Q E hr h => ?_)
  · obtain ⟨a, n, us, ps, rfl, _⟩ := h
    rfl
  obtain ⟨a, n, us, ps, rfl, ha, hA, hw, hlen, k⟩ := h
  refine ⟨_, pss_cons (ps_setLc (i := 2) (own := [("word", 3), ("column", 4)]) (g := gTup K 2 (gCons (gName 3) (gCons (gName 4) gNil))) (by rfl) scWrong.nd rfl rfl (sw_true rfl rfl rfl (by decide +kernel)) (pi_list (pv 0)) (blkOk_by (own := [("word", 3), ("column", 4)]) (N := ["parts", "length", "columns", "word", "column"]) (sc := defScope sWrong) (by decide +kernel))
      (fun _ _ _ _ _ => pg_tup (by rfl) (pgs_cons (pg_name (i := 3) scWrong.nd rfl (Or.inl rfl)) (pgs_cons (pg_name (i := 4) scWrong.nd rfl (Or.inl rfl)) pgs_nil)))
      (fun _ _ _ _ _ => pts_one (pt_not (pt_val (pe_cc G hr (Nat.le_refl _) pass0 (pa_cons (pv 3) pa_nil))))) (fun _ _ _ _ _ => pv 4))
    (pss_cons (ps_if (pt_cmpR op_gt (pv 1) (pe_gi T.cols) (nomark _)) (pss_one (ps_expr (pe_bm PySem.F.plainAttrs_list PySem.F.slot_list_append PySem.F.type_list_append mt_append (pv 2) (pa_cons (pe_op op_add (pe_gi T.cols) pe_int) pa_nil)))) pss_nil)
    (pss_one (ps_ret (pe_callBK (cr_minD rfl hr) (by rfl) T.mn (by decide +kernel) (pa_cons (pv 2) pa_nil) (pk_cons pe_non pk_nil))))), ?_⟩
  have hs0 : SqL K H a us := SqL.of ha
  refine ⟨_, rfl, a, rfl, ⟨_, hs0⟩, fun D hD => ?_⟩
  have hul := hA.length
  refine lc_it walk_list (fun i H1 => ∃ cs : List Nat, Same H H1 ∧ H1 D = some (.lst ((cs.map fun (k : Nat) => (k : Int)).map V.int)) ∧ cs = ((ps.take i).filter fun q => !isWord q.1).map (·.2))
    ⟨[], same_new hD _, upd_same, rfl⟩ (fun i H1 _ ⟨cs, s1, _⟩ => s1.seq hs0) ?_ ?_
  · rintro i x H1 H2 hi ⟨cs, s1, h1, ec⟩ ⟨rfl, hx⟩
    obtain ⟨q, hq, p, rfl, hp⟩ := hA.get hx
    have hp1 : H2 p = some (.tup (fP q)) := s1 _ _ hp
    have hlen2 : cs.length ≤ ps.length := by
      rw [ec, List.length_map]
      exact Nat.le_trans (List.length_filter_le _ _) (by rw [List.length_take]; omega)
    refine ⟨p, _, rfl, SqT.of hp1, rfl, _, _, rfl, _, _, rfl, rfl, rfl, ?_⟩
    have hqw := hw q (List.mem_of_getElem? hq)
    refine ⟨_, rfl, mk q.1, rfl, by rw [mk_len]; exact hqw, fun H3 s3 => ⟨_, rfl, ?_⟩⟩
    have et : ps.take (i + 1) = ps.take i ++ [q] := by rw [List.take_add_one, hq]; rfl
    have h3 : H3 D = some (.lst ((cs.map fun (k : Nat) => (k : Int)).map V.int)) := s3 _ _ h1
    refine ite2 (fun c => ?_) (fun c => ?_)
    · have c1 : isWord q.1 = false := by simpa using c
      refine ⟨_, rfl, _, h3, ?_, cs ++ [q.2], ?_, ?_, ?_⟩
      · rw [List.length_map, List.length_map, sizeLine_eq]
        omega
      · exact fun b o e => by
          rw [upd_ne (ne_of_none e hD)]
          exact s3 _ _ (s1 b o e)
      · rw [upd_same, List.map_append, List.map_append]
        rfl
      · rw [et, List.filter_append, List.map_append, ← ec]
        simp [c1]
    · have c1 : isWord q.1 = true := by simpa using c
      refine ⟨cs, s1.trans s3, h3, ?_⟩
      rw [et, List.filter_append, List.map_append, ← ec]
      simp [c1]
  · rintro H1 ⟨cs, s1, h1, ec⟩
    rw [hul, List.take_length] at ec
    have hlen2 : cs.length ≤ ps.length := by
      rw [ec, List.length_map]
      exact List.length_filter_le _ _
    -- behind the if
    have key : ∀ (H2 : Hp) (ds : List Nat), Same H H2 → H2 D = some (.lst ((ds.map fun (k : Nat) => (k : Int)).map V.int)) → ds = cols isWord ps n → Q (oN (wrongCol isWord ps n)) H2 := fun H2 ds s2 _ _ => k H2 s2
    have fin : ∀ (H2 : Hp) (ds : List Nat), Same H H2 → H2 D = some (.lst ((ds.map fun (k : Nat) => (k : Int)).map V.int)) → ds = cols isWord ps n → rMinD K [.ref D] [.non] H2 Q := fun H2 ds s2 h2 ed => by
      refine ⟨D, _, (ds.map fun (k : Nat) => (k : Int)).map PyData.int, .non, rfl, rfl, SqL.of h2, dp_ints _, alike_ints _, depth_ints _, fun e => ?_, fun y ys i v e e1 e2 e3 e4 => ?_⟩
      · have ed0 : ds = [] := by
          cases ds with
          | nil => rfl
          | cons _ _ => cases e
        have : wrongCol isWord ps n = none := by
          unfold wrongCol
          rw [← ed, ed0]
          rfl
        have k2 := k H2 s2
        rw [this] at k2
        exact k2
      · cases ds with
        | nil => cases e1
        | cons c r =>
          injection e1 with e5 e6
          subst e5 e6
          obtain ⟨u, hu⟩ : ∃ u : Int, v = V.int u ∧ e = PyData.int u := by
            rw [List.getElem?_map] at e2 e3
            cases z : ((c :: r).map fun (k : Nat) => (k : Int))[i]? with
            | none => rw [z] at e2; cases e2
            | some u =>
              rw [z] at e2 e3
              exact ⟨u, (Option.some.inj e2).symm, (Option.some.inj e3).symm⟩
          obtain ⟨rfl, rfl⟩ := hu
          have e7 : PyData.int u = PyData.int ((r.map fun (k : Nat) => (k : Int)).foldl min ((c : Nat) : Int)) := by
            rw [e4]
            exact PySem.W.minD_ints _ _
          injection e7 with e8
          obtain ⟨m, hm, em⟩ := minOf_ints e8
          have : wrongCol isWord ps n = some m := by
            unfold wrongCol
            rw [← ed]
            exact hm
          have k2 := k H2 s2
          rw [this] at k2
          rw [em]
          exact k2
    refine ⟨_, rfl, _, _, rfl, rfl, _, rfl, ?_⟩
    refine ite2 (fun c => ?_) (fun c => ?_)
    · have c1 : n > 120 := by
        have := of_decide_eq_true c
        omega
      refine ⟨_, rfl, .inl ⟨rfl, _, SqL.of h1⟩, _, _, rfl, rfl, D, _, _, rfl, rfl, h1, ?_, ?_⟩
      · rw [List.length_map, List.length_map, sizeLine_eq]
        omega
      · refine ⟨_, rfl, fin _ (cs ++ [121]) (fun b o e => by rw [upd_ne (ne_of_none e hD)]; exact s1 b o e) (by rw [upd_same, List.map_append, List.map_append]; rfl) ?_⟩
        unfold cols
        rw [← ec, if_pos c1]
    · have c1 : ¬ n > 120 := by
        have := of_decide_eq_false (Bool.eq_false_iff.mpr c)
        omega
      refine ⟨_, rfl, fin _ cs s1 h1 ?_⟩
      unfold cols
      rw [← ec, if_neg c1, List.append_nil]
theorem c_wrong (T : TxS K mg) (D : Dn K mg "wrong_column" sWrong) (G : C0 P w K mg base 4 "is_word" (spB isWord)) : C0 P w K mg base 5 "wrong_column" spWrong := by
  obtain ⟨f, fd, F, m⟩ := D.ex
  exact ⟨f, fd, _, ok_wrong F T G, m, F.kp, F.binds (ps := ["parts", "length"]) fun _ _ _ _ _ _ us hl => match us, hl with | [_, _], _ => rfl⟩
theorem c_row (T : TxS K mg) (D : Dn K mg "words_of_row" sRow) : C0 P w K mg base 1 "words_of_row" spRow := by
  obtain ⟨f, fd, F, m⟩ := D.ex
  exact ⟨f, fd, _, ok_row F T, m, F.kp, F.binds (ps := ["line"]) fun _ _ _ _ _ _ us hl => match us, hl with | [_], _ => rfl⟩
theorem c_num (T : TxS K mg) (D : Dn K mg "is_number" sIsNum) (G : C0 P w K mg base 1 "has_only" spHas) : C0 P w K mg base 2 "is_number" (spB isNum) := by
  obtain ⟨f, fd, F, m⟩ := D.ex
  exact ⟨f, fd, _, ok_num F T G, m, F.kp, F.binds (ps := ["word"]) fun _ _ _ _ _ _ us hl => match us, hl with | [_], _ => rfl⟩
theorem c_word (T : TxS K mg) (D : Dn K mg "is_word" sIsWord) (G1 : C0 P w K mg base 3 "is_small" (spB isSmall)) (G2 : C0 P w K mg base 3 "is_kind_name" (spB isKindName)) (G3 : C0 P w K mg base 2 "is_text" (spB isText)) (G4 : C0 P w K mg base 2 "is_number" (spB isNum)) : C0 P w K mg base 4 "is_word" (spB isWord) := by
  obtain ⟨f, fd, F, m⟩ := D.ex
  exact ⟨f, fd, _, ok_word F T G1 G2 G3 G4, m, F.kp, F.binds (ps := ["word"]) fun _ _ _ _ _ _ us hl => match us, hl with | [_], _ => rfl⟩
end
end My
namespace My
open PySem L2 SS
theorem LS.pushAll {α : Type} {f : α → List V} {H H1 : Hp} {l : Addr} {ps qs : List α} {us : List V} (h : LS f H H1 l ps) (hq : AllT f H1 us qs) : ∃ vs, H1 l = some (.lst vs) ∧ vs.length = ps.length ∧ LS f H (upd H1 l (.lst (vs ++ us))) l (ps ++ qs) := by
  obtain ⟨s, hl, vs, h1, h2⟩ := h
  refine ⟨vs, h1, h2.length, fun b u e => ?_, hl, _, upd_same, ?_⟩
  · rw [upd_ne (ne_of_none e hl)]
    exact s b u e
  · have t : Tups H1 (upd H1 l (.lst (vs ++ us))) := tups_lst h1
    exact (h2.on t).append (hq.on t)
theorem lay_len (r : Nat) (p : List (List Nat × Nat)) : (lay r p).length = p.length := by unfold lay; rw [List.length_map]
theorem scanGo_len {isW : List Nat → Bool} : ∀ (ls : List (List Nat)) (r : Nat), (∀ l ∈ ls, l.length ≤ 1000) → (scanGo isW r ls).1.length ≤ 2000 * ls.length
  | [], r, _ => by simp [scanGo]
  | l :: ls, r, h => by
    have hl := h l List.mem_cons_self
    have ih := scanGo_len ls (r + 1) (fun x hx => h x (List.mem_cons_of_mem _ hx)) (isW := isW)
    have hr := rowWords_len l
    rw [scanGo, List.length_cons]
    split
    · rename_i c _
      have := List.length_filter_le (fun q : List Nat × Nat => decide (q.2 < c)) (rowWords l)
      show (lay r ((rowWords l).filter fun q => decide (q.2 < c))).length ≤ _
      rw [lay_len]
      refine Nat.le_trans this ?_
      omega
    · show (lay _ _ ++ _).length ≤ _
      rw [List.length_append, lay_len]
      omega
def StopAt (H : Hp) (v : V) : Option (Nat × Nat) → Prop
  | none => v = .non
  | some p => ∃ q, v = .ref q ∧ H q = some (.tup [.int (p.1 : Nat), .int (p.2 : Nat)])
def nl : Str := Str.ofString "\n"
/-- a text whose rows are neither many nor long -/
def Fits (z : Str) (rs : List Str) : Prop := Txt.split z nl = rs ∧ z.length ≤ 100000 ∧ rs.length ≤ 1000 ∧ ∀ r ∈ rs, r.length ≤ 1000
def spScan : Sp := fun vs H Q _ => ∃ (z : Str) (rs : List Str), vs = [.str z] ∧ Fits z rs ∧
  ∀ (H' : Hp) (p wl : Addr) (st : V) (us : List V), Same H H' → H' p = some (.tup [.ref wl, st]) → H' wl = some (.tup us) → AllT fW H' us (scan isWord (rs.map tl)).1 → us.length ≤ 600000 → StopAt H' st (scan isWord (rs.map tl)).2 → Q (.ref p) H'
theorem LS.same {α : Type} {f : α → List V} {H H1 H2 : Hp} {l : Addr} {ps : List α} (h : LS f H H1 l ps) (s : Same H1 H2) : LS f H H2 l ps := by
  obtain ⟨s0, hl, vs, h1, h2⟩ := h
  exact ⟨s0.trans s, hl, vs, s _ _ h1, h2.on (same_tups s)⟩
theorem rw_wlen : ∀ (r cur : List Nat) (k : Nat), ∀ q ∈ rw_ cur k r, q.1.length ≤ cur.length + r.length + 1
  | [], cur, k, q, h => by
    rw [rw_] at h
    unfold flush at h
    split at h
    · simp at h
    · simp at h; subst h; show cur.length ≤ _; omega
  | c :: r, cur, k, q, h => by
    rw [rw_] at h
    rw [List.length_cons]
    split at h
    · rcases List.mem_append.mp h with h | h
      · rcases List.mem_append.mp h with h | h
        · unfold flush at h
          split at h
          · simp at h
          · simp at h; subst h; show cur.length ≤ _; omega
        · split at h
          · simp at h
          · simp at h; subst h; show 1 ≤ _; omega
      · have := rw_wlen r [] (k + 1) q h
        rw [List.length_nil] at this
        omega
    · have := rw_wlen r (cur ++ [c]) (k + 1) q h
      rw [List.length_append] at this
      simp only [List.length_cons, List.length_nil] at this
      omega
def condW : Option Nat → (List Nat × Nat) → Bool
  | none, _ => true
  | some c, q => decide (q.2 < c)
section
variable {P : Program} {w : World} {K : PySem.W.Frag} {mg : Str → Option Value} {base : Heap}
theorem scScan : FnScope ["text", "rows", "words", "row", "line", "parts", "wrong", "word", "column"] ["text"] (defScope sScanned) := ⟨rfl, rfl, rfl, by decide +kernel, rfl, by decide +kernel, by decide +kernel⟩
theorem cut300 (xs : List V) : cutV xs none (some (300 : Int)) = xs.take 300 := by
  unfold cutV
  rw [HT.sIx_none, show (300 : Int) = ((300 : Nat) : Int) from rfl, HT.sIx_nat, List.drop_zero, Nat.sub_zero]
  rcases Nat.lt_or_ge 300 xs.length with h | h
  · rw [Nat.min_eq_left (by omega)]
  · rw [Nat.min_eq_right h, List.take_length, List.take_of_length_le h]
theorem ok_scan {f : Addr} {fd : FuncData} (F : Fun K "scanned" "scanned" sScanned f fd) (T : TxS K mg) (G1 : C0 P w K mg base 1 "words_of_row" spRow) (G2 : C0 P w K mg base 5 "wrong_column" spWrong) : FnOk P w K mg base CX0 6 f fd ["text"] spScan := by
  refine F.ok scScan (fun vs H Q E h => ?_) (fun cdv A outer s H vs Q E hr h => ?_)
  · obtain ⟨z, rs, rfl, _⟩ := h
    rfl
  obtain ⟨z, rs, rfl, ⟨hsp, hz, hrl, hrs⟩, k⟩ := h
  have hu : ∀ n : Nat, n ≤ 1000000 → n ≤ sizeLine := fun n h => by rw [sizeLine_eq]; omega
  refine ⟨_, pss_cons (ps_set (i := 1) scScan.nd rfl (Or.inl rfl) (pe_split (pv 0) pe_str)) <|
    pss_cons (ps_set (i := 2) scScan.nd rfl (Or.inl rfl) (pe_lst pa_nil)) <|
    pss_cons (ps_for PassesOwn.never rfl (pi_enumK (by rfl) T.enum (pa_cons (pe_slice sl_list (pv 1) po_none (po_some (pe_gi T.rows))) pa_nil) (pk_cons pe_int pk_nil)) (pg_tup (by rfl) (pgs_cons (pg_name (i := 3) scScan.nd rfl (Or.inr rfl)) (pgs_cons (pg_name (i := 4) scScan.nd rfl (Or.inl rfl)) pgs_nil))) <|
      pss_cons (ps_set (i := 5) scScan.nd rfl (Or.inl rfl) (pe_cc G1 hr (by decide) pass0 (pa_cons (pv 4) pa_nil))) <|
      pss_cons (ps_set (i := 6) scScan.nd rfl (Or.inr rfl) (pe_cc G2 hr (by decide) pass0 (pa_cons (pv 5) (pa_cons (pe_callB call_len_str (by rfl) T.len PySem.boot_len (pa_cons (pv 4) pa_nil)) pa_nil)))) <|
      pss_cons (ps_expr (pe_bm PySem.F.plainAttrs_list PySem.F.slot_list_extend PySem.F.type_list_extend mt_extend (pv 2) (pa_cons
        (pe_lc (own := [("word", 7), ("column", 8)]) (g := gTup K 2 (gCons (gName 7) (gCons (gName 8) gNil))) (by rfl) scScan.nd (pi_list (pv 5)) (blkOk_by (own := [("word", 7), ("column", 8)]) (N := ["text", "rows", "words", "row", "line", "parts", "wrong", "word", "column"]) (sc := defScope sScanned) (by decide +kernel))
          (fun _ _ _ _ _ => pg_tup (by rfl) (pgs_cons (pg_name (i := 7) scScan.nd rfl (Or.inl rfl)) (pgs_cons (pg_name (i := 8) scScan.nd rfl (Or.inl rfl)) pgs_nil)))
          (fun _ _ _ _ _ => pts_one (PW.pt (pw_or (pt_cmpR op_isN (pv 6) pe_non (nomark _)) (pw_or1 (pt_cmpR op_lt (pv 8) (pv 6) (nomark _))))))
          (fun _ _ _ _ _ => pe_tup (pa_cons (pv 7) (pa_cons (pv 3) (pa_cons (pv 8) pa_nil))))) pa_nil))) <|
      pss_one (ps_if (pt_cmpR op_notN (pv 6) pe_non (nomark _)) (pss_one (ps_ret (pe_tup (pa_cons (pe_callTy call_tuple_of (by rfl) T.tup (by decide +kernel) (pa_cons (pv 2) pa_nil)) (pa_cons (pe_tup (pa_cons (pv 3) (pa_cons (pv 6) pa_nil))) pa_nil))))) pss_nil)) <|
    pss_cons (ps_if (pt_cmpR op_gt (pe_callB call_len_seq (by rfl) T.len PySem.boot_len (pa_cons (pv 1) pa_nil)) (pe_gi T.rows) (nomark _)) (pss_one (ps_ret (pe_tup (pa_cons (pe_callTy call_tuple_of (by rfl) T.tup (by decide +kernel) (pa_cons (pv 2) pa_nil)) (pa_cons (pe_tup (pa_cons (pe_op op_add (pe_gi T.rows) pe_int) (pa_cons pe_int pa_nil))) pa_nil))))) pss_nil) <|
    pss_one (ps_ret (pe_tup (pa_cons (pe_callTy call_tuple_of (by rfl) T.tup (by decide +kernel) (pa_cons (pv 2) pa_nil)) (pa_cons pe_non pa_nil)))), ?_⟩
  have hrl2 : (rs.map V.str).length = rs.length := List.length_map _
  refine ⟨_, rfl, ⟨_, rfl⟩, z, nl, rfl, rfl, by decide +kernel, by rw [sizeLine_eq]; omega, fun R hR => ?_⟩
  rw [hsp]
  refine ⟨Nat.zero_le _, fun l hl => ?_⟩
  have hRl : R ≠ l := fun e => by rw [e, upd_same] at hl; cases hl
  have hl0 : H l = none := by rw [upd_ne hRl.symm] at hl; exact hl
  have hR1 : upd (upd H R (.lst (rs.map V.str))) l (.lst []) R = some (.lst (rs.map V.str)) := by rw [upd_ne hRl, upd_same]
  refine ⟨_, rfl, _, rfl, R, _, rfl, SqL.of hR1, fun A0 hA => ?_⟩
  rw [cut300]
  have hAl : A0 ≠ l := fun e => by rw [e, upd_same] at hA; cases hA
  have hAR : A0 ≠ R := fun e => by rw [e, hR1] at hA; cases hA
  have hA0 : H A0 = none := by rw [upd_ne hAl, upd_ne hAR] at hA; exact hA
  obtain ⟨xs, hxs⟩ : ∃ xs, xs = (rs.map V.str).take 300 := ⟨_, rfl⟩
  have hxs2 : xs = (rs.take 300).map V.str := by rw [hxs, List.map_take]
  rw [← hxs]
  obtain ⟨Hb, hHb⟩ : ∃ Hb, Hb = upd (upd H R (.lst (rs.map V.str))) A0 (.lst xs) := ⟨_, rfl⟩
  have bR : Hb R = some (.lst (rs.map V.str)) := by rw [hHb, upd_ne hAR.symm, upd_same]
  have bA : Hb A0 = some (.lst xs) := by rw [hHb, upd_same]
  have bl : Hb l = none := by rw [hHb, upd_ne hAl.symm, upd_ne hRl.symm]; exact hl0
  have sHb : Same H Hb := by
    rw [hHb]
    exact (same_new hR _).trans (same_new (by rw [upd_ne hAR]; exact hA0) _)
  have sb : Same Hb (upd (upd (upd H R (.lst (rs.map V.str))) l (.lst [])) A0 (.lst xs)) := fun b o e => by
    by_cases e1 : b = A0
    · subst e1; rw [bA] at e; rw [upd_same]; exact e
    · rw [upd_ne e1]
      have e2 : b ≠ l := fun q => by rw [q, bl] at e; cases e
      rw [upd_ne e2]
      rw [hHb, upd_ne e1] at e
      exact e
  refine ⟨A0, xs, 1, rfl, rfl, by decide, by decide, SqL.of upd_same, ?_⟩
  obtain ⟨L, hL⟩ : ∃ L, L = (rs.take 300).map tl := ⟨_, rfl⟩
  have hLr : ∀ x ∈ L, x.length ≤ 1000 := fun x hx => by
    rw [hL] at hx
    obtain ⟨r, hr, rfl⟩ := List.mem_map.mp hx
    rw [len_tl]
    exact hrs r (List.mem_of_mem_take hr)
  have hLl : L.length ≤ 300 := by rw [hL, List.length_map, List.length_take]; omega
  have hxl : xs.length = L.length := by rw [hxs2, hL, List.length_map, List.length_map]
  have hTot := scanGo_len (isW := isWord) L 1 hLr
  have hscan : scan isWord (rs.map tl) = match (scanGo isWord 1 L).2 with | some p => ((scanGo isWord 1 L).1, some p) | none => ((scanGo isWord 1 L).1, if rs.length > 300 then some (301, 1) else none) := by
    unfold scan
    rw [← List.map_take, ← hL, List.length_map]
    all_goals (cases (scanGo isWord 1 L).2 <;> rfl)
  refine for_it walk_enumK (fun i σ H1 => ∃ (ws : List W) (v3 v4 v5 v6 v7 v8 : Option V), σ = [some (.str z), some (.ref R), some (.ref l), v3, v4, v5, v6, v7, v8] ∧ LS fW Hb H1 l ws ∧
      ws ++ (scanGo isWord (i + 1) (L.drop i)).1 = (scanGo isWord 1 L).1 ∧ (scanGo isWord (i + 1) (L.drop i)).2 = (scanGo isWord 1 L).2)
    ⟨[], none, none, none, none, none, none, rfl, ⟨sb, bl, [], ?_, .nil⟩, rfl, rfl⟩ (fun i σ H1 _ ⟨ws, v3, v4, v5, v6, v7, v8, _, hS, _⟩ => hS.1.seq (SqL.of bA)) ?_ ?_
  · rw [upd_ne hAl.symm, upd_same]
  · rintro i x σ H1 H2 hi ⟨ws, v3, v4, v5, v6, v7, v8, rfl, hS, e1, e2⟩ ⟨T0, y, rfl, hT0, rfl, hx⟩
    obtain ⟨r, hr1, rfl⟩ : ∃ r, (rs.take 300)[i]? = some r ∧ y = V.str r := by
      rw [hxs2, List.getElem?_map] at hx
      cases e : (rs.take 300)[i]? with
      | none => rw [e] at hx; cases hx
      | some r => rw [e] at hx; exact ⟨r, rfl, (Option.some.inj hx).symm⟩
    have hrlen : r.length ≤ 1000 := hrs r (List.mem_of_mem_take (List.mem_of_getElem? hr1))
    have hLi : L[i]? = some (tl r) := by rw [hL, List.getElem?_map, hr1]; rfl
    have hdrop : L.drop i = tl r :: L.drop (i + 1) := by
      obtain ⟨h, e⟩ := List.getElem?_eq_some_iff.mp hLi
      rw [List.drop_eq_getElem_cons h, e]
    rw [hdrop, scanGo] at e1 e2
    have hlr := len_tl r
    have hrw := rowWords_len (tl r)
    rw [hlr] at e1 e2
    have hS1 := hS.new hT0 (.tup [.int (1 + (i : Nat)), .str r])
    have er : (1 + ((i : Nat) : Int)) = ((i + 1 : Nat) : Int) := by omega
    refine ⟨T0, _, rfl, SqT.of upd_same, rfl, _, _, rfl, _, _, rfl, rfl, ?_⟩
    rw [er] at hS1 ⊢
    generalize hHH : upd H1 T0 (.tup [.int ((i + 1 : Nat) : Int), .str r]) = HH at hS1 ⊢
    refine ⟨_, rfl, r, rfl, by omega, fun H3 lp us3 s3 hlp h3 hA3 => ?_⟩
    refine ⟨_, rfl, _, rfl, r, rfl, by rw [sizeLine_eq]; omega, lp, r.length, us3, rowWords (tl r), rfl, h3, hA3, fun q hq => ?_, by omega, fun H4 s4 => ?_⟩
    · have := rw_wlen (tl r) [] 1 q hq
      rw [List.length_nil] at this
      omega
    obtain ⟨wv, hwv⟩ : ∃ wv, wv = wrongCol isWord (rowWords (tl r)) r.length := ⟨_, rfl⟩
    rw [← hwv] at e1 e2 ⊢
    have hS4 := hS1.same (s3.trans s4)
    obtain ⟨vl, hvl, _⟩ := hS4.2.2
    have hA4 := hA3.on (same_tups s4)
    have h4 : H4 lp = some (.lst us3) := s4 _ _ h3
    have hul3 := hA3.length
    refine ⟨_, rfl, .inl ⟨rfl, _, SqL.of hvl⟩, ?_⟩
    refine ⟨_, rfl, lp, rfl, ⟨_, SqL.of h4⟩, fun D hD => ?_⟩
    refine lc_it walk_list (fun j Hx => LS fW H4 Hx D (lay (i + 1) (((rowWords (tl r)).take j).filter (condW wv)))) ⟨same_new hD _, hD, [], upd_same, .nil⟩ (fun j Hx _ hh => hh.1.seq (SqL.of h4)) ?_ ?_
    · rintro j xv Hx Hx2 hj hX ⟨rfl, hxv⟩
      obtain ⟨q, hq, p, rfl, hp⟩ := hA4.get hxv
      have hp1 : Hx2 p = some (.tup (fP q)) := hX.1 _ _ hp
      have et : (rowWords (tl r)).take (j + 1) = (rowWords (tl r)).take j ++ [q] := by rw [List.take_add_one, hq]; rfl
      have lt1 : (lay (i + 1) (((rowWords (tl r)).take j).filter (condW wv))).length ≤ 2000 := by
        rw [lay_len]
        refine Nat.le_trans (List.length_filter_le _ _) ?_
        rw [List.length_take]
        omega
      refine ⟨p, _, rfl, SqT.of hp1, rfl, _, _, rfl, _, _, rfl, rfl, rfl, ?_⟩
      have yes : condW wv q = true → ∀ (tp : Addr), Hx2 tp = none → ∃ acc, upd Hx2 tp (.tup [.str (mk q.1), .int ((i + 1 : Nat) : Int), .int (q.2 : Nat)]) D = some (.lst acc) ∧ acc.length < sizeLine ∧
          LS fW H4 (upd (upd Hx2 tp (.tup [.str (mk q.1), .int ((i + 1 : Nat) : Int), .int (q.2 : Nat)])) D (.lst (acc ++ [.ref tp]))) D (lay (i + 1) (((rowWords (tl r)).take (j + 1)).filter (condW wv))) := fun c tp htp => by
        have hX1 := hX.new htp (.tup (fW (q.1, i + 1, q.2)))
        obtain ⟨acc, a1, a2, a3⟩ := hX1.push (p := tp) (q := (q.1, i + 1, q.2)) upd_same
        refine ⟨acc, a1, by rw [sizeLine_eq]; omega, ?_⟩
        have ee : lay (i + 1) (((rowWords (tl r)).take (j + 1)).filter (condW wv)) = lay (i + 1) (((rowWords (tl r)).take j).filter (condW wv)) ++ [(q.1, i + 1, q.2)] := by
          rw [et, List.filter_append]
          unfold lay
          rw [List.map_append]
          simp [c]
        rw [ee]
        exact a3
      have no : condW wv q = false → LS fW H4 Hx2 D (lay (i + 1) (((rowWords (tl r)).take (j + 1)).filter (condW wv))) := fun c => by
        have ee : lay (i + 1) (((rowWords (tl r)).take (j + 1)).filter (condW wv)) = lay (i + 1) (((rowWords (tl r)).take j).filter (condW wv)) := by
          rw [et, List.filter_append]
          simp [c]
        rw [ee]
        exact hX
      refine ⟨_, rfl, rfl, _, rfl, ?_⟩
      cases wv with
      | none =>
        refine iteT (iteT ⟨_, rfl, _, rfl, _, rfl, by show 3 ≤ sizeLine; decide, fun tp htp => yes rfl tp htp⟩)
      | some c =>
        have ed : decide (oN (some c) = V.non) = false := rfl
        rw [ed]
        refine iteF ⟨_, rfl, _, rfl, _, _, rfl, rfl, _, rfl, ?_⟩
        have e5 : decide (((q.2 : Nat) : Int) < ((c : Nat) : Int)) = condW (some c) q := by
          show decide (((q.2 : Nat) : Int) < ((c : Nat) : Int)) = decide (q.2 < c)
          by_cases z : q.2 < c
          · rw [decide_eq_true z, decide_eq_true (by omega)]
          · rw [decide_eq_false z, decide_eq_false (by omega)]
        rw [e5]
        refine ite2 (fun c6 => ?_) (fun c6 => ?_)
        · exact ⟨_, rfl, _, rfl, _, rfl, by show 3 ≤ sizeLine; decide, fun tp htp => yes c6 tp htp⟩
        · exact no (by simpa using c6)
    · intro Hx hX
      rw [hul3, List.take_length] at hX
      have hS5 := hS4.same hX.1
      obtain ⟨us2, hus2, hAll2⟩ := hX.2.2
      obtain ⟨vs, b1, b2, b3⟩ := hS5.pushAll hAll2
      have lws : ws.length ≤ 600000 := by
        have := congrArg List.length e1
        rw [List.length_append] at this
        omega
      have l2 : us2.length ≤ 2000 := by
        rw [hAll2.length, lay_len]
        refine Nat.le_trans (List.length_filter_le _ _) ?_
        omega
      refine ⟨l, D, vs, us2, rfl, rfl, b1, hus2, by rw [sizeLine_eq]; omega, ?_⟩
      refine ⟨_, rfl, rfl, _, rfl, ?_⟩
      cases wv with
      | none =>
        refine iteF ⟨ws ++ lay (i + 1) ((rowWords (tl r)).filter (condW none)), _, _, _, _, _, _, rfl, b3, ?_, e2⟩
        have ef : (rowWords (tl r)).filter (condW none) = rowWords (tl r) := List.filter_eq_self.mpr fun _ _ => rfl
        rw [ef, List.append_assoc]
        exact e1
      | some c =>
        refine iteT ?_
        have e2' : (scanGo isWord 1 L).2 = some (i + 1, c) := e2.symm
        have e1' : ws ++ lay (i + 1) ((rowWords (tl r)).filter (condW (some c))) = (scanGo isWord 1 L).1 := e1
        rw [e2'] at hscan
        obtain ⟨s6, h6, us, hus, hAll⟩ := b3
        generalize hHx3 : upd Hx l (.lst (vs ++ us2)) = Hx3 at s6 hus hAll ⊢
        have hul := hAll.length
        have husl : us.length ≤ 600000 := by rw [hul, e1']; omega
        refine ⟨_, rfl, l, us, rfl, .inl ⟨SqL.of hus, fun wl hwl => ?_⟩⟩
        have t1 := same_new hwl (.tup us)
        refine ⟨_, rfl, _, rfl, by show 2 ≤ sizeLine; decide, fun q hq => ?_⟩
        have t2 := same_new hq (.tup [.int ((i + 1 : Nat) : Int), .int ((c : Nat) : Int)])
        refine ⟨by show 2 ≤ sizeLine; decide, fun p hp => ?_⟩
        have t3 := same_new hp (.tup [.ref wl, .ref q])
        have tt := t1.trans (t2.trans t3)
        refine k _ p wl (.ref q) us (sHb.trans (s6.trans tt)) upd_same (t3 _ _ (t2 _ _ upd_same)) ?_ husl ?_
        · rw [hscan]
          show AllT fW _ us (scanGo isWord 1 L).1
          rw [← e1']
          exact hAll.on (same_tups tt)
        · rw [hscan]
          exact ⟨q, rfl, t3 _ _ upd_same⟩
  · rintro σ H1 ⟨ws, v3, v4, v5, v6, v7, v8, rfl, ⟨s1, h1, us, h2, h3⟩, e1, e2⟩
    rw [hxl, List.drop_length] at e1 e2
    have e1' : ws = (scanGo isWord 1 L).1 := by
      rw [← e1, scanGo]
      simp
    have e2' : (scanGo isWord 1 L).2 = none := by
      rw [← e2, scanGo]
    rw [e2'] at hscan
    have hul := h3.length
    have hus : us.length ≤ 600000 := by rw [hul, e1']; omega
    refine ⟨_, rfl, R, _, rfl, .inl (s1.seq (SqL.of bR)), _, _, rfl, rfl, _, rfl, ?_⟩
    rw [hrl2]
    refine ite2 (fun c => ?_) (fun c => ?_)
    · have c1 : rs.length > 300 := by
        have := of_decide_eq_true c
        omega
      refine ⟨_, rfl, l, us, rfl, .inl ⟨SqL.of h2, fun wl hwl => ?_⟩⟩
      have t1 := same_new hwl (.tup us)
      refine ⟨_, _, rfl, rfl, by show 2 ≤ sizeLine; decide, fun q hq => ?_⟩
      have t2 := same_new hq (.tup [.int (300 + 1), .int 1])
      refine ⟨by show 2 ≤ sizeLine; decide, fun p hp => ?_⟩
      have t3 := same_new hp (.tup [.ref wl, .ref q])
      have tt := t1.trans (t2.trans t3)
      refine k _ p wl (.ref q) us (sHb.trans (s1.trans tt)) upd_same (t3 _ _ (t2 _ _ upd_same)) ?_ hus ?_
      · rw [hscan]
        show AllT fW _ us (scanGo isWord 1 L).1
        rw [← e1']
        exact h3.on (same_tups tt)
      · rw [hscan]
        show StopAt _ _ (if rs.length > 300 then some (301, 1) else none)
        rw [if_pos c1]
        exact ⟨q, rfl, t3 _ _ upd_same⟩
    · have c1 : ¬ rs.length > 300 := by
        have := of_decide_eq_false (Bool.eq_false_iff.mpr c)
        omega
      refine ⟨_, rfl, l, us, rfl, .inl ⟨SqL.of h2, fun wl hwl => ?_⟩⟩
      have t1 := same_new hwl (.tup us)
      refine ⟨by show 2 ≤ sizeLine; decide, fun p hp => ?_⟩
      have t3 := same_new hp (.tup [.ref wl, .non])
      have tt := t1.trans t3
      refine k _ p wl .non us (sHb.trans (s1.trans tt)) upd_same (t3 _ _ upd_same) ?_ hus ?_
      · rw [hscan]
        show AllT fW _ us (scanGo isWord 1 L).1
        rw [← e1']
        exact h3.on (same_tups tt)
      · rw [hscan]
        show StopAt _ _ (if rs.length > 300 then some (301, 1) else none)
        rw [if_neg c1]
        rfl
theorem c_scan (T : TxS K mg) (D : Dn K mg "scanned" sScanned) (G1 : C0 P w K mg base 1 "words_of_row" spRow) (G2 : C0 P w K mg base 5 "wrong_column" spWrong) : C0 P w K mg base 6 "scanned" spScan := by
  obtain ⟨f, fd, F, m⟩ := D.ex
  exact ⟨f, fd, _, ok_scan F T G1 G2, m, F.kp, F.binds (ps := ["text"]) fun _ _ _ _ _ _ us hl => match us, hl with | [_], _ => rfl⟩
end
end My
namespace My
open PySem L2 SS
abbrev sSE : Stmt := inClass (top 2) 0
abbrev sFault : Stmt := inClass (top 3) 0
/-- what the top has of the two classes of errors: SteadError at S, Fault at C, Fault's __init__ at fI, SteadError's at fS -/
structure TxE (K : PySem.W.Frag) (mg : Str → Option Value) (S C fI fS : Addr) : Prop where
  gS : mg "SteadError" = some (.ref S)
  gC : mg "Fault" = some (.ref C)
  gV : mg "ValueError" = none
  vV : PySem.W.findCls K (.type "ValueError") (.type "type") "__init__" = some (.val (.builtin "ValueError.__init__"))
  rS : ClX.CRead K S (.type "type")
  fndS : PySem.W.findCls K (.ref S) (.type "type") "__init__" = some (.val (.ref fS))
  kS : PySem.W.keepIn K (.ref fS) = true
  oC : OexC K C
  iC : PySem.W.findIn K (.ref C) "__init__" = some (some (.ref fI))
  tI : PySem.W.typeIn K (.ref fI) = some (.type "function")
  n1 : PySem.W.findIn K (.ref C) "page" = some none
  n2 : PySem.W.findIn K (.ref C) "row" = some none
  n3 : PySem.W.findIn K (.ref C) "column" = some none
  n4 : PySem.W.findIn K (.ref C) "why" = some none
  dS : ∃ fd, FunD K "__init__" "SteadError.__init__" (defArgs sSE) (defBody sSE) (defScope sSE) [.str "refused"] [] fS fd
  dI : ∃ fd, Fun K "__init__" "Fault.__init__" sFault fI fd
  xf : XfC K C
  te : PySem.W.exmOne K (.ref C) (.ref C) = some true
section
variable {P : Program} {w : World} {K : PySem.W.Frag} {mg : Str → Option Value} {base : Heap} {S C fI fS : Addr}
/-- SteadError.__init__ of a Fault that is being made -/
def spSE (K : PySem.W.Frag) (C : Addr) : Sp := fun vs H Q _ => ∃ (a : Addr) (m : Str), vs = [.ref a, .str m] ∧ H a = some (exo a C none) ∧ Q .non H
theorem scSE : FnScope ["self", "message"] ["self", "message"] (defScope sSE) := ⟨rfl, rfl, rfl, by decide +kernel, rfl, by decide +kernel, by decide +kernel⟩
theorem ok_se (T : TxE K mg S C fI fS) : ∃ fd ps, FnOk P w K mg base CX0 1 fS fd ps (spSE K C) ∧ Binds K fd ps [] := by
  obtain ⟨fd, F⟩ := T.dS
  refine ⟨fd, ["self", "message"], ?_, ?_⟩
  · refine F.ok scSE (fun vs H Q E h => ?_) (fun cdv A outer s H vs Q E hr h => ?_)
    · obtain ⟨a, m, rfl, _⟩ := h
      rfl
    obtain ⟨a, m, rfl, ha, k⟩ := h
    refine ⟨_, pss_one (ps_expr (pe_veinit (by rfl) T.gV T.vV (pa_cons (pv 0) (pa_cons (pv 1) pa_nil)))), ?_⟩
    exact ⟨_, rfl, _, rfl, a, C, _, rfl, by show 1 ≤ 1000; decide, T.oC, ha, k⟩
  · obtain ⟨ds, h1, h2⟩ := F.binds1 (ps := ["self", "message"]) 2 1 (by simp) rfl (fun T0 kV doc pm an cdv ct us its h1 h2 => by
      match us, h1, its, h2 with
      | [_, _], _, [_], _ => exact ⟨_, rfl, rfl⟩)
    have e : ds = [] := by
      cases h1
      rfl
    rw [e] at h2
    exact h2
/-- Fault(page, row, column, why) -/
def fsF (pg why : Str) (r c : Int) : List (Str × V) := [("why", .str why), ("column", .int c), ("row", .int r), ("page", .str pg)]
def spFI (K : PySem.W.Frag) (C : Addr) : Sp := fun vs H Q _ => ∃ (a : Addr) (pg why : Str) (r c : Nat), vs = [.ref a, .str pg, .int (r : Nat), .int (c : Nat), .str why] ∧ H a = some (exo a C none) ∧ pg.length ≤ 1000 ∧ why.length ≤ 1000 ∧ r ≤ 1000000 ∧ c ≤ 1000000 ∧
  ∀ d, H d = none → d ≠ a → Q .non (upd (upd H a (exo a C (some d))) d (exd d (fsF pg why r c)))
theorem scFI : FnScope ["self", "page", "row", "column", "why"] ["self", "page", "row", "column", "why"] (defScope sFault) := ⟨rfl, rfl, rfl, by decide +kernel, rfl, by decide +kernel, by decide +kernel⟩
theorem ok_fi (T : TxE K mg S C fI fS) : ∃ fd ps, FnOk P w K mg base CX0 2 fI fd ps (spFI K C) ∧ Binds K fd ps [] := by
  obtain ⟨fd, F⟩ := T.dI
  obtain ⟨fdS, psS, GS_, bS⟩ := ok_se (P := P) (w := w) (base := base) T
  refine ⟨fd, ["self", "page", "row", "column", "why"], ?_, F.binds (ps := ["self", "page", "row", "column", "why"]) fun _ _ _ _ _ _ us hl => match us, hl with | [_, _, _, _, _], _ => rfl⟩
  refine F.ok scFI (fun vs H Q E h => ?_) (fun cdv A outer s H vs Q E hr h => ?_)
  · obtain ⟨a, pg, why, r, c, rfl, _⟩ := h
    rfl
  obtain ⟨a, pg, why, r, c, rfl, ha, h1, h2, h3, h4, k⟩ := h
  refine ⟨_, pss_cons (ps_expr (pe_clsf (pe_glob (v := .ref S) (by rfl) T.gS rfl) T.rS T.fndS T.kS GS_ hr bS pass0 (pa_cons (pv 0) (pa_cons (pe_joined
      (.cons pe_str (.cons (pe_fmt (pv 1)) (.cons pe_str (.cons (pe_fmt (pv 2)) (.cons pe_str (.cons (pe_fmt (pv 3)) (.cons pe_str (.cons (pe_fmt (pv 4)) .nil))))))))) pa_nil)))) <|
    pss_cons (ps_ost (pv 0) (pv 1)) <| pss_cons (ps_ost (pv 0) (pv 2)) <| pss_cons (ps_ost (pv 0) (pv 3)) <| pss_one (ps_ost (pv 0) (pv 4)), ?_⟩
  have app : ∀ x y : Str, (x ++ y).length = x.length + y.length := fun x y => by
    show (x.cps ++ y.cps).size = _
    rw [Array.size_append]
    rfl
  have numl : ∀ n : Nat, n ≤ 1000000 → (Str.ofString (toString ((n : Nat) : Int))).length ≤ 7 := fun n hn => by
    have e := TL.numL_len (n := n) (k := 7) (by decide) (by omega)
    rw [← len_tl]
    have e2 : tl (Str.ofString (toString ((n : Nat) : Int))) = TL.numL n := TL.tl_num n
    rw [e2]
    exact e
  have logl : ∀ n : Nat, n ≤ 1000000 → ((n : Nat) : Int).natAbs.log2 < 1920 := fun n hn => by
    rw [Int.natAbs_natCast]
    exact log_small (by omega)
  have l1 : (Str.ofString "page '").length = 6 := by decide +kernel
  have l2 : (Str.ofString "', row ").length = 7 := by decide +kernel
  have l3 : (Str.ofString ", column ").length = 9 := by decide +kernel
  have l4 : (Str.ofString ": ").length = 2 := by decide +kernel
  have l0 : Str.empty.length = 0 := rfl
  have n1 := numl r h3
  have n2 := numl c h4
  have hz := sizeLine_eq
  refine ⟨rfl, _, rfl, ?_⟩
  refine ⟨_, rfl, by rw [app]; omega, ?_⟩
  refine ⟨_, rfl, .inl ⟨_, rfl, by omega, _, rfl, by rw [app, app]; omega, ?_⟩⟩
  refine ⟨_, rfl, by rw [app, app, app]; omega, ?_⟩
  refine ⟨_, rfl, .inr ⟨_, rfl, logl r h3, _, rfl, by rw [app, app, app, app]; omega, ?_⟩⟩
  refine ⟨_, rfl, by rw [app, app, app, app, app]; omega, ?_⟩
  refine ⟨_, rfl, .inr ⟨_, rfl, logl c h4, _, rfl, by rw [app, app, app, app, app, app]; omega, ?_⟩⟩
  refine ⟨_, rfl, by rw [app, app, app, app, app, app, app]; omega, ?_⟩
  refine ⟨_, rfl, .inl ⟨_, rfl, by omega, _, rfl, by rw [app, app, app, app, app, app, app, app]; omega, ?_⟩⟩
  refine ⟨a, _, rfl, ha, ?_⟩
  refine ⟨_, rfl, _, rfl, a, C, rfl, T.oC, T.n1, .inl ⟨ha, fun d hd hda => ?_⟩⟩
  refine ⟨_, rfl, _, rfl, a, C, rfl, T.oC, T.n2, .inr ⟨d, _, upd_same, by rw [upd_ne hda, upd_same], by show 1 ≤ 900; decide, ?_⟩⟩
  refine ⟨_, rfl, _, rfl, a, C, rfl, T.oC, T.n3, .inr ⟨d, _, by rw [upd_ne hda.symm, upd_same], upd_same, by show 2 ≤ 900; decide, ?_⟩⟩
  refine ⟨_, rfl, _, rfl, a, C, rfl, T.oC, T.n4, .inr ⟨d, _, by rw [upd_ne hda.symm, upd_ne hda.symm, upd_same], upd_same, by show 3 ≤ 900; decide, ?_⟩⟩
  have q := k d hd hda
  have e : upd (upd (upd (upd (upd H d (exd d [(Str.ofString "page", V.str pg)])) a (exo a C (some d))) d (exd d [(Str.ofString "row", V.int (r : Nat)), (Str.ofString "page", V.str pg)])) d (exd d [(Str.ofString "column", V.int (c : Nat)), (Str.ofString "row", V.int (r : Nat)), (Str.ofString "page", V.str pg)])) d (exd d (fsF pg why r c)) = upd (upd H a (exo a C (some d))) d (exd d (fsF pg why r c)) := by
    funext b
    by_cases h : b = d
    · subst h; rw [upd_same, upd_same]
    · rw [upd_ne h, upd_ne h, upd_ne h, upd_ne h]
      by_cases h' : b = a
      · subst h'; rw [upd_same, upd_same]
      · rw [upd_ne h', upd_ne h', upd_ne h]
  rw [← e] at q
  exact q
end
end My
namespace My
open PySem L2 SS
section
variable {P : Program} {w : World} {K : PySem.W.Frag} {mg : Str → Option Value} {base : Heap} {S C fI fS : Addr}
/-- what is asked where a Fault is made -/
theorem mkFault {H1 : Hp} {Q : XK} {pg why : Str} {r c : Nat} (h1 : pg.length ≤ 1000) (h2 : why.length ≤ 1000) (h3 : r ≤ 1000000) (h4 : c ≤ 1000000)
    (q : ∀ d H', Same H1 H' → H1 d = none → H' d = some (.xd (fsF pg why r c)) → Q (.ref C) (some d) H') (a : Addr) (ha : H1 a = none) :
    spFI K C (.ref a :: ([.str pg, .int (r : Nat), .int (c : Nat), .str why] ++ [])) (upd H1 a (exo a C none)) (fun v H2 => v = .non ∧ ∃ (d : Addr) (fs : List (Str × V)), H2 a = some (exo a C (some d)) ∧ H2 d = some (exd d fs) ∧ H1 d = none ∧ Q (.ref C) (some d) (upd (del H2 a) d (.xd fs))) (fun _ _ _ => False) := by
  refine ⟨a, pg, why, r, c, rfl, upd_same, h1, h2, h3, h4, fun d hd hda => ⟨rfl, d, fsF pg why r c, ?_, upd_same, ?_, ?_⟩⟩
  · rw [upd_ne hda.symm, upd_same]
  · rw [upd_ne hda] at hd
    exact hd
  · rw [upd_ne hda] at hd
    refine q d _ (fun b o e => ?_) hd upd_same
    have e1 : b ≠ d := ne_of_none e hd
    have e2 : b ≠ a := ne_of_none e ha
    rw [upd_ne e1, del_ne e2, upd_ne e1, upd_ne e2, upd_ne e2]
    exact e
def spWordsOf (C : Addr) : Sp := fun vs H Q E => ∃ (z : Str) (rs : List Str), vs = [.str z] ∧ Fits z rs ∧ ((scan isWord (rs.map tl)).2 = none → ∀ H' v, Same H H' → Q v H') ∧
  ∀ r c, (scan isWord (rs.map tl)).2 = some (r, c) → r ≤ 1000000 ∧ c ≤ 1000000 ∧ ∀ d H', Same H H' → H' d = some (.xd (fsF Str.empty "sign" r c)) → E (.ref C) (some d) H'
theorem scWO : FnScope ["text", "words", "wrong", "row", "column"] ["text"] (defScope sWords) := ⟨rfl, rfl, rfl, by decide +kernel, rfl, by decide +kernel, by decide +kernel⟩
theorem s_empty : Str.ofString "" = Str.empty := by decide +kernel
theorem ok_wordsof {f : Addr} {fd : FuncData} (F : Fun K "words_of" "words_of" sWords f fd) (T : TxS K mg) (TE : TxE K mg S C fI fS) (G : C0 P w K mg base 6 "scanned" spScan) : FnOk P w K mg base (L2.CX P w) 7 f fd ["text"] (spWordsOf C) := by
  obtain ⟨fdI, psI, GI_, bI⟩ := ok_fi (P := P) (w := w) (base := base) TE
  refine F.okX scWO (fun vs H Q E h => ?_) (fun cdv A outer s H vs Q E hr h => ?_)
  · obtain ⟨z, rs, rfl, _⟩ := h
    rfl
  obtain ⟨z, rs, rfl, hz, k0, k1⟩ := h
  refine ⟨_, pss_cons (ps_asg (pe_cc G hr (Nat.le_refl _) pass0 (pa_cons (pv 0) pa_nil)) (pg_tup (by rfl) (pgs_cons (pg_name (i := 1) scWO.nd rfl (Or.inl rfl)) (pgs_cons (pg_name (i := 2) scWO.nd rfl (Or.inl rfl)) pgs_nil)))) <|
    pss_cons (ps_if (pt_cmpR op_notN (pv 2) pe_non (nomark _)) (pss_cons (ps_asg (pv 2) (pg_tup (by rfl) (pgs_cons (pg_name (i := 3) scWO.nd rfl (Or.inl rfl)) (pgs_cons (pg_name (i := 4) scWO.nd rfl (Or.inl rfl)) pgs_nil))))
      (pss_one (ps_raise rfl (takes_of rfl rfl rfl rfl) (pmk_oex TE.oC TE.iC TE.tI GI_ (hr.mono (by decide)) bI .nil pass0 (by rfl) TE.gC (pa_cons pe_str (pa_cons (pv 3) (pa_cons (pv 4) (pa_cons pe_str pa_nil)))))))) pss_nil) <|
    pss_one (ps_ret (pv 1)), ?_⟩
  refine ⟨_, rfl, z, rs, rfl, hz, fun H1 p wl st us s1 hp hwl hA _ hst => ?_⟩
  refine ⟨p, _, rfl, SqT.of hp, rfl, _, _, rfl, _, _, rfl, rfl, ?_⟩
  refine ⟨_, rfl, rfl, _, rfl, ?_⟩
  cases e : (scan isWord (rs.map tl)).2 with
  | none =>
    rw [e] at hst
    obtain rfl : st = .non := hst
    exact iteF ⟨_, rfl, k0 e _ _ s1⟩
  | some rc =>
    obtain ⟨r, c⟩ := rc
    rw [e] at hst
    obtain ⟨q, rfl, hq⟩ := hst
    obtain ⟨b1, b2, k2⟩ := k1 r c e
    refine iteT ⟨_, rfl, q, _, rfl, SqT.of hq, rfl, _, _, rfl, _, _, rfl, rfl, ?_⟩
    refine ⟨_, rfl, _, rfl, by show 4 ≤ 1000; decide, fun a ha => ?_⟩
    exact mkFault (pg := Str.ofString "") (why := Str.ofString "sign") (r := r) (c := c) (by decide +kernel) (by decide +kernel) b1 b2 (fun d H' s2 hd hx => k2 d H' (s1.trans s2) (by rw [← s_empty]; exact hx)) a ha
end
end My
namespace My
open PySem L2 SS
/-! ### the reader -/
abbrev rd (j : Nat) : Stmt := inClass (top 40) j
def rf (pg : Str) (wl : Addr) (st : V) (why : Str) (at_ op : Nat) (l1 l2 l3 : Addr) : List (Str × V) :=
  [("page", .str pg), ("words", .ref wl), ("stop", st), ("stop_why", .str why), ("at", .int (at_ : Nat)), ("many_open", .int (op : Nat)), ("starts", .ref l1), ("method_starts", .ref l2), ("node_starts", .ref l3)]
section
variable {pg why : Str} {wl l1 l2 l3 m : Addr} {st : V} {at_ op : Nat} {z : V}
theorem rf_page : (rf pg wl st why at_ op l1 l2 l3).lookup ("page" : Str) = some (.str pg) := by kernel_rfl
theorem rf_words : (rf pg wl st why at_ op l1 l2 l3).lookup ("words" : Str) = some (.ref wl) := by kernel_rfl
theorem rf_stop : (rf pg wl st why at_ op l1 l2 l3).lookup ("stop" : Str) = some st := by kernel_rfl
theorem rf_why : (rf pg wl st why at_ op l1 l2 l3).lookup ("stop_why" : Str) = some (.str why) := by kernel_rfl
theorem rf_at : (rf pg wl st why at_ op l1 l2 l3).lookup ("at" : Str) = some (.int (at_ : Nat)) := by kernel_rfl
theorem rf_open : (rf pg wl st why at_ op l1 l2 l3).lookup ("many_open" : Str) = some (.int (op : Nat)) := by kernel_rfl
theorem rf_st : (rf pg wl st why at_ op l1 l2 l3).lookup ("starts" : Str) = some (.ref l1) := by kernel_rfl
theorem rf_ms : (rf pg wl st why at_ op l1 l2 l3).lookup ("method_starts" : Str) = some (.ref l2) := by kernel_rfl
theorem rf_ns : (rf pg wl st why at_ op l1 l2 l3).lookup ("node_starts" : Str) = some (.ref l3) := by kernel_rfl
theorem rf_pat (k : Nat) : putF "at" (.int (k : Nat)) (rf pg wl st why at_ op l1 l2 l3) = rf pg wl st why k op l1 l2 l3 := by kernel_rfl
theorem rf_pms : putF "method_starts" (.ref m) (rf pg wl st why at_ op l1 l2 l3) = rf pg wl st why at_ op l1 m l3 := by kernel_rfl
theorem rf_pns : putF "node_starts" (.ref m) (rf pg wl st why at_ op l1 l2 l3) = rf pg wl st why at_ op l1 l2 m := by kernel_rfl
end
/-- what stands while one page is read: behind the heap H0 the reader at p; its words, its stop (at q: row r, column c), its page's name, the stop's why -/
structure RX where
  H0 : Hp
  p : Addr
  wl : Addr
  q : Addr
  us : List V
  ws : List W
  r : Nat
  c : Nat
  pg : Str
  why : Str
structure RX.Ok (x : RX) : Prop where
  hw : x.H0 x.wl = some (.tup x.us)
  al : AllT fW x.H0 x.us x.ws
  ln : x.ws.length ≤ 600000
  hq : x.H0 x.q = some (.tup [.int (x.r : Nat), .int (x.c : Nat)])
  rb : x.r ≤ 1000000
  cb : x.c ≤ 1000000
  pb : x.pg.length ≤ 1000
  wb : x.why.length ≤ 1000
  ww : ∀ k ∈ x.ws, k.1.length ≤ 1000 ∧ k.2.1 ≤ 1000000 ∧ k.2.2 ≤ 1000000
  p0 : x.H0 x.p = none
theorem RX.Ok.len {x : RX} (o : x.Ok) : x.us.length = x.ws.length := o.al.length
/-- the reader stands at word a, X1 and X2 its starts and method starts -/
def Rd (C : Addr) (x : RX) (H : Hp) (a op e : Nat) (X1 X2 : List V) : Prop :=
  Same x.H0 H ∧ ∃ (dx l1 l2 l3 : Addr) (X3 : List V), H x.p = some (.ins C dx (rf x.pg x.wl (.ref x.q) x.why a op l1 l2 l3)) ∧ x.H0 l1 = none ∧ x.H0 l2 = none ∧ x.H0 l3 = none ∧ H l1 = some (.lst X1) ∧ H l2 = some (.lst X2) ∧ H l3 = some (.lst X3) ∧
    l1 ≠ l2 ∧ l1 ≠ l3 ∧ l2 ≠ l3 ∧ X3.length ≤ a + e
section
variable {C : Addr} {x : RX} {H : Hp} {a op e : Nat} {X1 X2 : List V}
theorem Rd.new (h : Rd C x H a op e X1 X2) {q : Addr} (n : H q = none) (o : HO) : Rd C x (upd H q o) a op e X1 X2 := by
  obtain ⟨s, dx, l1, l2, l3, X3, h1, n1, n2, n3, h2, h3, h4, r⟩ := h
  have ne : ∀ {b : Addr} {u : HO}, H b = some u → upd H q o b = some u := fun {b u} z => by rw [upd_ne (ne_of_none z n)]; exact z
  exact ⟨s.trans (same_new n o), dx, l1, l2, l3, X3, ne h1, n1, n2, n3, ne h2, ne h3, ne h4, r⟩
theorem Rd.slack (h : Rd C x H a op e X1 X2) {e' : Nat} (he : e ≤ e') : Rd C x H a op e' X1 X2 := by
  obtain ⟨s, dx, l1, l2, l3, X3, h1, n1, n2, n3, h2, h3, h4, d1, d2, d3, ln⟩ := h
  exact ⟨s, dx, l1, l2, l3, X3, h1, n1, n2, n3, h2, h3, h4, d1, d2, d3, by omega⟩
/-- self.at = k -/
theorem Rd.at_ (o : x.Ok) (h : Rd C x H a op e X1 X2) {k e' : Nat} (he : a + e ≤ k + e') : ∃ dx fs, H x.p = some (.ins C dx fs) ∧ fs.lookup ("at" : Str) = some (.int (a : Nat)) ∧ fs.length < 1000 ∧ Rd C x (upd H x.p (.ins C dx (putF "at" (.int (k : Nat)) fs))) k op e' X1 X2 := by
  obtain ⟨s, dx, l1, l2, l3, X3, h1, n1, n2, n3, h2, h3, h4, d1, d2, d3, ln⟩ := h
  have ne : ∀ {b : Addr} {ys : List V} {u : HO}, H b = some (.lst ys) → upd H x.p u b = some (.lst ys) := fun {b ys u} z => by
    rw [upd_ne (ne_of z h1 (by intro q; cases q))]; exact z
  refine ⟨dx, _, h1, rf_at, by show 9 < 1000; decide, fun b u z => ?_, dx, l1, l2, l3, X3, ?_, n1, n2, n3, ne h2, ne h3, ne h4, d1, d2, d3, by omega⟩
  · rw [upd_ne (ne_of_none z o.p0)]
    exact s b u z
  · rw [upd_same, rf_pat]
/-- self.node_starts.append(v) -/
theorem Rd.node (o : x.Ok) (h : Rd C x H a op e X1 X2) (v : V) : ∃ dx fs l3 X3, H x.p = some (.ins C dx fs) ∧ fs.lookup ("node_starts" : Str) = some (.ref l3) ∧ fs.lookup ("at" : Str) = some (.int (a : Nat)) ∧ H l3 = some (.lst X3) ∧ X3.length ≤ a + e ∧ Rd C x (upd H l3 (.lst (X3 ++ [v]))) a op (e + 1) X1 X2 := by
  obtain ⟨s, dx, l1, l2, l3, X3, h1, n1, n2, n3, h2, h3, h4, d1, d2, d3, ln⟩ := h
  refine ⟨dx, _, l3, X3, h1, rf_ns, rf_at, h4, ln, fun b u z => ?_, dx, l1, l2, l3, X3 ++ [v], ?_, n1, n2, n3, ?_, ?_, upd_same, d1, d2, d3, ?_⟩
  · rw [upd_ne (ne_of_none z n3)]
    exact s b u z
  · rw [upd_ne (ne_of h1 h4 (by intro q; cases q))]
    exact h1
  · rw [upd_ne d2]; exact h2
  · rw [upd_ne d3]; exact h3
  · rw [List.length_append]
    simp only [List.length_cons, List.length_nil]
    omega
end
/-- the fault that leaves at row, column, why -/
def FE (CF : Addr) (x : RX) (E : XK) (r c : Nat) (why : Str) : Prop := ∀ d H', Same x.H0 H' → H' d = some (.xd (fsF x.pg why r c)) → E (.ref CF) (some d) H'
def SE_ (CF : Addr) (x : RX) (E : XK) : Prop := FE CF x E x.r x.c x.why
/-! ### methods by their class -/
structure Dm (K : PySem.W.Frag) (C : Addr) (x qual : Str) (st : Stmt) : Prop where
  ex : ∃ f fd, Fun K x qual st f fd ∧ Meth K C x f
structure Mm (P : Program) (w : World) (K : PySem.W.Frag) (mg : Str → Option Value) (base : Heap) (CX : CXT) (k : Nat) (C : Addr) (m : Str) (sp : Sp) : Prop where
  ex : ∃ f fd ps, FnOk P w K mg base CX k f fd ps sp ∧ Meth K C m f ∧ Binds K fd ps []
theorem pe_mm {X : Cx} {CX : CXT} {k j : Nat} {C : Addr} {m : Str} {sp : Sp} {E : XK} {apos pos : Pos} {o e : Expr} {es : List Expr} {ta : TE} {t : TA} {pl : Sem Bool} (c : Cls X.K C) (M : Mm X.prog X.w X.K X.mg X.base CX k C m sp) (hr : Room j X.A) (hk : k ≤ j) (hx : Passes CX X E) (he : PE X o ta) (ha : PA X (e :: es) t)
    (hst : starEach (e :: es) X.env = (false, eval e X.env) :: starEach es X.env := by rfl) (hpl : (backTo pos (starEach es X.env)).any (·.1) = false := by rfl)
    (ht : eval (.Call (.Attribute o m apos) (e :: es) [] pos) X.env = (do
      let ov ← eval o X.env
      standAt apos.atName
      let (f, first) ← holding [ov] (getMethod ov m pl)
      callWith pos f first (backTo pos (starEach (e :: es) X.env)) (backToKw pos (keywordEach [] X.env))) := by rfl) :
    PE X (.Call (.Attribute o m apos) (e :: es) [] pos) (tMeth C m sp [] E ta t) := by
  obtain ⟨f, fd, ps, F, hm, hb⟩ := M.ex
  exact pe_meth he c hm F (hr.mono hk) hb .nil hx ha hst hpl ht
theorem pe_mm0 {X : Cx} {CX : CXT} {k j : Nat} {C : Addr} {m : Str} {sp : Sp} {E : XK} {apos pos : Pos} {o : Expr} {ta : TE} {pl : Sem Bool} (c : Cls X.K C) (M : Mm X.prog X.w X.K X.mg X.base CX k C m sp) (hr : Room j X.A) (hk : k ≤ j) (hx : Passes CX X E) (he : PE X o ta)
    (ht : eval (.Call (.Attribute o m apos) [] [] pos) X.env = (do
      let ov ← eval o X.env
      standAt apos.atName
      let (f, first) ← holding [ov] (getMethod ov m pl)
      callWith pos f first (backTo pos (starEach [] X.env)) (backToKw pos (keywordEach [] X.env))) := by rfl) :
    PE X (.Call (.Attribute o m apos) [] [] pos) (tMeth C m sp [] E ta tNil) := by
  obtain ⟨f, fd, ps, F, hm, hb⟩ := M.ex
  exact pe_meth0 he c hm F (hr.mono hk) hb .nil hx ht
structure TxR (K : PySem.W.Frag) (mg : Str → Option Value) (C : Addr) : Prop where
  cl : Cls K C
  f1 : NoAttr K C "page"
  f2 : NoAttr K C "words"
  f3 : NoAttr K C "stop"
  f4 : NoAttr K C "stop_why"
  f5 : NoAttr K C "at"
  f6 : NoAttr K C "many_open"
  f7 : NoAttr K C "starts"
  f8 : NoAttr K C "method_starts"
  f9 : NoAttr K C "node_starts"
section
variable {P : Program} {w : World} {K : PySem.W.Frag} {mg : Str → Option Value} {base : Heap} {S CF fI fS C : Addr}
abbrev M0 (P : Program) (w : World) (K : PySem.W.Frag) (mg : Str → Option Value) (base : Heap) (C : Addr) (k : Nat) (m : Str) (sp : Sp) : Prop := Mm P w K mg base (L2.CX P w) k C m sp
/-! refuse_stop -/
def spRS (C CF : Addr) : Sp := fun vs H Q E => ∃ (x : RX) (a op e : Nat) (X1 X2 : List V), vs = [.ref x.p] ∧ x.Ok ∧ Rd C x H a op e X1 X2 ∧ SE_ CF x E
theorem scRS : FnScope ["self", "row", "column"] ["self"] (defScope (rd 2)) := ⟨rfl, rfl, rfl, by decide +kernel, rfl, by decide +kernel, by decide +kernel⟩
theorem m_rs (T : TxR K mg C) (TE : TxE K mg S CF fI fS) (D : Dm K C "refuse_stop" "Reader.refuse_stop" (rd 2)) : M0 P w K mg base C 4 "refuse_stop" (spRS C CF) := by
  obtain ⟨fdI, psI, GI_, bI⟩ := ok_fi (P := P) (w := w) (base := base) TE
  obtain ⟨f, fd, F, hm⟩ := D.ex
  refine ⟨f, fd, ["self"], F.okX scRS (fun vs H Q E h => ?_) (fun cdv A outer s H vs Q E hr h => ?_), hm, F.binds (ps := ["self"]) fun _ _ _ _ _ _ us hl => match us, hl with | [_], _ => rfl⟩
  · obtain ⟨x, a, op, e, X1, X2, rfl, _⟩ := h
    rfl
  obtain ⟨x, a, op, e, X1, X2, rfl, o, R, k⟩ := h
  obtain ⟨s0, dx, l1, l2, l3, X3, h1, _⟩ := R
  refine ⟨_, pss_cons (ps_asg (pe_fld (pv 0) rfl) (pg_tup (by rfl) (pgs_cons (pg_name (i := 1) scRS.nd rfl (Or.inl rfl)) (pgs_cons (pg_name (i := 2) scRS.nd rfl (Or.inl rfl)) pgs_nil)))) <|
    pss_one (ps_raise rfl (takes_of rfl rfl rfl rfl) (pmk_oex TE.oC TE.iC TE.tI GI_ hr bI .nil pass0 (by rfl) TE.gC (pa_cons (pe_fld (pv 0) rfl) (pa_cons (pv 1) (pa_cons (pv 2) (pa_cons (pe_fld (pv 0) rfl) pa_nil)))))), ?_⟩
  refine ⟨_, rfl, x.p, C, dx, _, _, rfl, h1, T.cl, T.f3, rf_stop, x.q, _, rfl, SqT.of (s0 _ _ o.hq), rfl, _, _, rfl, _, _, rfl, rfl, ?_⟩
  refine ⟨_, rfl, x.p, C, dx, _, _, rfl, h1, T.cl, T.f1, rf_page, _, rfl, _, rfl, _, rfl, x.p, C, dx, _, _, rfl, h1, T.cl, T.f4, rf_why, by show 4 ≤ 1000; decide, fun b hb => ?_⟩
  exact mkFault o.pb o.wb o.rb o.cb (fun d H' s1 _ hx => k d H' (s0.trans s1) hx) b hb
/-! refuse -/
def spRef (C CF : Addr) : Sp := fun vs H Q E => ∃ (x : RX) (a op e : Nat) (X1 X2 : List V) (z : Str) (k : W), vs = [.ref x.p, .str z] ∧ x.Ok ∧ Rd C x H a op e X1 X2 ∧ z.length ≤ 1000 ∧ x.ws[a]? = some k ∧ FE CF x E k.2.1 k.2.2 z
theorem scRef : FnScope ["self", "why", "_", "row", "column"] ["self", "why"] (defScope (rd 3)) := ⟨rfl, rfl, rfl, by decide +kernel, rfl, by decide +kernel, by decide +kernel⟩
/-- the word at a -/
theorem RX.Ok.word {x : RX} (o : x.Ok) {a : Nat} {k : W} (h : x.ws[a]? = some k) : ∃ p, x.us[a]? = some (.ref p) ∧ x.H0 p = some (.tup (fW k)) := by
  have hl : a < x.us.length := by
    have := (List.getElem?_eq_some_iff.mp h).1
    have := o.len
    omega
  have e : x.us[a]? = some x.us[a] := by simp [hl]
  obtain ⟨q, h1, p, h2, h3⟩ := o.al.get e
  rw [h] at h1
  obtain rfl := Option.some.inj h1
  exact ⟨p, by rw [e, h2], h3⟩
theorem m_ref (T : TxR K mg C) (TE : TxE K mg S CF fI fS) (D : Dm K C "refuse" "Reader.refuse" (rd 3)) : M0 P w K mg base C 4 "refuse" (spRef C CF) := by
  obtain ⟨fdI, psI, GI_, bI⟩ := ok_fi (P := P) (w := w) (base := base) TE
  obtain ⟨f, fd, F, hm⟩ := D.ex
  refine ⟨f, fd, ["self", "why"], F.okX scRef (fun vs H Q E h => ?_) (fun cdv A outer s H vs Q E hr h => ?_), hm, F.binds (ps := ["self", "why"]) fun _ _ _ _ _ _ us hl => match us, hl with | [_, _], _ => rfl⟩
  · obtain ⟨x, a, op, e, X1, X2, z, k, rfl, _⟩ := h
    rfl
  obtain ⟨x, a, op, e, X1, X2, z, wk, rfl, o, R, hz, hk, k⟩ := h
  obtain ⟨s0, dx, l1, l2, l3, X3, h1, _⟩ := R
  obtain ⟨p, hp1, hp2⟩ := o.word hk
  have wb := o.ww wk (List.mem_of_getElem? hk)
  refine ⟨_, pss_cons (ps_asg (pe_ix ix_tup (pe_fld (pv 0) rfl) (pe_fld (pv 0) rfl) (fun _ _ => rfl)) (pg_tup (by rfl) (pgs_cons (pg_name (i := 2) scRef.nd rfl (Or.inl rfl)) (pgs_cons (pg_name (i := 3) scRef.nd rfl (Or.inl rfl)) (pgs_cons (pg_name (i := 4) scRef.nd rfl (Or.inl rfl)) pgs_nil))))) <|
    pss_one (ps_raise rfl (takes_of rfl rfl rfl rfl) (pmk_oex TE.oC TE.iC TE.tI GI_ hr bI .nil pass0 (by rfl) TE.gC (pa_cons (pe_fld (pv 0) rfl) (pa_cons (pv 3) (pa_cons (pv 4) (pa_cons (pv 1) pa_nil)))))), ?_⟩
  refine ⟨_, rfl, x.p, C, dx, _, _, rfl, h1, T.cl, T.f2, rf_words, _, rfl, x.p, C, dx, _, _, rfl, h1, T.cl, T.f5, rf_at, x.wl, _, _, _, rfl, rfl, SqT.of (s0 _ _ o.hw), atI_nat hp1, p, _, rfl, SqT.of (s0 _ _ hp2), rfl, _, _, rfl, _, _, rfl, _, _, rfl, rfl, ?_⟩
  refine ⟨_, rfl, x.p, C, dx, _, _, rfl, h1, T.cl, T.f1, rf_page, _, rfl, _, rfl, _, rfl, by show 4 ≤ 1000; decide, fun b hb => ?_⟩
  exact mkFault o.pb hz wb.2.1 wb.2.2 (fun d H' s1 _ hx => k d H' (s0.trans s1) hx) b hb
end
end My
namespace My
open PySem L2 SS
section
variable {P : Program} {w : World} {K : PySem.W.Frag} {mg : Str → Option Value} {base : Heap} {S CF fI fS C : Addr}
theorem atI_0 {α : Type} {y : α} {ys : List α} : atI (y :: ys) 0 = some y := atI_nat (j := 0) rfl
/-! word -/
def spWd (C CF : Addr) : Sp := fun vs H Q E => ∃ (x : RX) (a op e : Nat) (X1 X2 : List V), vs = [.ref x.p] ∧ x.Ok ∧ Rd C x H a op e X1 X2 ∧ a ≤ x.ws.length ∧ (∀ k, x.ws[a]? = some k → Q (.str (mk k.1)) H) ∧ (a = x.ws.length → SE_ CF x E)
theorem scWd : FnScope ["self"] ["self"] (defScope (rd 1)) := ⟨rfl, rfl, rfl, by decide +kernel, rfl, by decide +kernel, by decide +kernel⟩
theorem m_wd (T : TxR K mg C) (TS : TxS K mg) (D : Dm K C "word" "Reader.word" (rd 1)) (M : M0 P w K mg base C 4 "refuse_stop" (spRS C CF)) : M0 P w K mg base C 5 "word" (spWd C CF) := by
  obtain ⟨f, fd, F, hm⟩ := D.ex
  refine ⟨f, fd, ["self"], F.okX scWd (fun vs H Q E h => ?_) (fun cdv A outer s H vs Q E hr h => ?_), hm, F.binds (ps := ["self"]) fun _ _ _ _ _ _ us hl => match us, hl with | [_], _ => rfl⟩
  · obtain ⟨x, a, op, e, X1, X2, rfl, _⟩ := h
    rfl
  obtain ⟨x, a, op, e, X1, X2, rfl, o, R, ha, k1, k2⟩ := h
  have R' := R
  obtain ⟨s0, dx, l1, l2, l3, X3, h1, _⟩ := R
  have ol := o.len
  refine ⟨_, pss_cons (ps_if (pt_cmpR op_eq (pe_fld (pv 0) rfl) (pe_callB call_len_seq (by rfl) TS.len PySem.boot_len (pa_cons (pe_fld (pv 0) rfl) pa_nil)) (nomark _))
      (pss_one (ps_expr (pe_mm0 T.cl M hr (Nat.le_refl _) (passes_call (takes_of rfl rfl rfl rfl) fun _ _ _ _ h => h) (pv 0)))) pss_nil) <|
    pss_one (ps_ret (pe_ix ix_tup (pe_ix ix_tup (pe_fld (pv 0) rfl) (pe_fld (pv 0) rfl) (fun _ _ => rfl)) pe_int (fun _ _ => rfl))), ?_⟩
  refine ⟨_, rfl, x.p, C, dx, _, _, rfl, h1, T.cl, T.f5, rf_at, _, rfl, x.p, C, dx, _, _, rfl, h1, T.cl, T.f2, rf_words, x.wl, _, rfl, .inr (SqT.of (s0 _ _ o.hw)), rfl, _, rfl, ?_⟩
  refine ite2 (fun c => ?_) (fun c => ?_)
  · have c1 := of_decide_eq_true c
    injection c1 with c2
    have c3 : a = x.ws.length := by omega
    exact ⟨_, rfl, x.p, dx, _, rfl, h1, by kernel_rfl, x, a, op, e, X1, X2, rfl, o, R', k2 c3⟩
  · have c1 := of_decide_eq_false (Bool.eq_false_iff.mpr c)
    have c3 : a < x.ws.length := by
      rcases Nat.lt_or_ge a x.ws.length with h | h
      · exact h
      · exact absurd (by rw [show a = x.us.length by omega]) c1
    have hk : x.ws[a]? = some x.ws[a] := by simp [c3]
    obtain ⟨p, hp1, hp2⟩ := o.word hk
    refine ⟨_, rfl, x.p, C, dx, _, _, rfl, h1, T.cl, T.f2, rf_words, _, rfl, x.p, C, dx, _, _, rfl, h1, T.cl, T.f5, rf_at, x.wl, _, _, _, rfl, rfl, SqT.of (s0 _ _ o.hw), atI_nat hp1, p, _, _, _, rfl, rfl, SqT.of (s0 _ _ hp2), atI_0, k1 _ hk⟩
/-! skip -/
def spSkip (C CF : Addr) : Sp := fun vs H Q E => ∃ (x : RX) (a op e : Nat) (X1 X2 : List V) (z : Str), vs = [.ref x.p, .str z] ∧ x.Ok ∧ Rd C x H a op e X1 X2 ∧ a ≤ x.ws.length ∧
  (∀ k, x.ws[a]? = some k → mk k.1 = z → ∀ H', Rd C x H' (a + 1) op (e - 1) X1 X2 → Q .non H') ∧ (∀ k, x.ws[a]? = some k → mk k.1 ≠ z → FE CF x E k.2.1 k.2.2 "word") ∧ (a = x.ws.length → SE_ CF x E)
theorem scSkip : FnScope ["self", "word"] ["self", "word"] (defScope (rd 4)) := ⟨rfl, rfl, rfl, by decide +kernel, rfl, by decide +kernel, by decide +kernel⟩
theorem at_split {x : RX} {a : Nat} (h : a ≤ x.ws.length) : (∃ k, x.ws[a]? = some k) ∨ a = x.ws.length := by
  rcases Nat.lt_or_ge a x.ws.length with c | c
  · exact .inl ⟨x.ws[a], by simp [c]⟩
  · exact .inr (by omega)
theorem m_skip (T : TxR K mg C) (D : Dm K C "skip" "Reader.skip" (rd 4)) (M1 : M0 P w K mg base C 5 "word" (spWd C CF)) (M2 : M0 P w K mg base C 4 "refuse" (spRef C CF)) : M0 P w K mg base C 6 "skip" (spSkip C CF) := by
  obtain ⟨f, fd, F, hm⟩ := D.ex
  refine ⟨f, fd, ["self", "word"], F.okX scSkip (fun vs H Q E h => ?_) (fun cdv A outer s H vs Q E hr h => ?_), hm, F.binds (ps := ["self", "word"]) fun _ _ _ _ _ _ us hl => match us, hl with | [_, _], _ => rfl⟩
  · obtain ⟨x, a, op, e, X1, X2, z, rfl, _⟩ := h
    rfl
  obtain ⟨x, a, op, e, X1, X2, z, rfl, o, R, ha, k1, k2, k3⟩ := h
  have R' := R
  obtain ⟨s0, dx, l1, l2, l3, X3, h1, _⟩ := R
  refine ⟨_, pss_cons (ps_if (pt_cmpR op_ne (pe_mm0 T.cl M1 hr (Nat.le_refl _) (passes_call (takes_of rfl rfl rfl rfl) fun _ _ _ _ h => h) (pv 0)) (pv 1) (nomark _))
      (pss_one (ps_expr (pe_mm T.cl M2 hr (by decide) (passes_call (takes_of rfl rfl rfl rfl) fun _ _ _ _ h => h) (pv 0) (pa_cons pe_str pa_nil)))) pss_nil) <|
    pss_one (ps_fldaug (pv 0) pe_int in_add), ?_⟩
  refine ⟨_, rfl, x.p, dx, _, rfl, h1, by kernel_rfl, x, a, op, e, X1, X2, rfl, o, R', ha, fun k hk => ?_, fun h => k3 h⟩
  refine ⟨_, rfl, rfl, _, rfl, ?_⟩
  rw [dec_str]
  refine ite2 (fun c => ?_) (fun c => ?_)
  · have c1 : mk k.1 ≠ z := by simpa using c
    exact ⟨_, rfl, x.p, dx, _, rfl, h1, by kernel_rfl, x, a, op, e, X1, X2, _, k, rfl, o, R', by decide +kernel, hk, k2 k hk c1⟩
  · have c1 : mk k.1 = z := by simpa using c
    obtain ⟨dx2, fs, g1, g2, g3, g4⟩ := R'.at_ o (k := a + 1) (e' := e - 1) (by omega)
    have ec : ((a : Nat) : Int) + 1 = ((a + 1 : Nat) : Int) := by omega
    refine ⟨_, rfl, x.p, C, dx2, fs, _, rfl, g1, T.cl, T.f5, g2, _, _, rfl, rfl, dx2, fs, g1, g3, ?_⟩
    rw [ec]
    exact k1 k hk c1 _ g4
theorem Rd.same {x : RX} {H H' : Hp} {a op e : Nat} {X1 X2 : List V} (h : Rd C x H a op e X1 X2) (s : Same H H') : Rd C x H' a op e X1 X2 := by
  obtain ⟨s0, dx, l1, l2, l3, X3, h1, n1, n2, n3, h2, h3, h4, r⟩ := h
  exact ⟨s0.trans s, dx, l1, l2, l3, X3, s _ _ h1, n1, n2, n3, s _ _ h2, s _ _ h3, s _ _ h4, r⟩
/-! take -/
def spTake (C CF : Addr) (Sf : Addr → Option Sp) : Sp := fun vs H Q E => ∃ (x : RX) (a op e : Nat) (X1 X2 : List V) (f : Addr) (g : List Nat → Bool), vs = [.ref x.p, .ref f] ∧ Sf f = some (spB g) ∧ x.Ok ∧ Rd C x H a op e X1 X2 ∧ a ≤ x.ws.length ∧
  (∀ k, x.ws[a]? = some k → g k.1 = true → ∀ H', Rd C x H' (a + 1) op (e - 1) X1 X2 → Q (.str (mk k.1)) H') ∧ (∀ k, x.ws[a]? = some k → g k.1 = false → FE CF x E k.2.1 k.2.2 "word") ∧ (a = x.ws.length → SE_ CF x E)
theorem scTake : FnScope ["self", "fits", "word"] ["self", "fits"] (defScope (rd 5)) := ⟨rfl, rfl, rfl, by decide +kernel, rfl, by decide +kernel, by decide +kernel⟩
theorem m_take {Sf : Addr → Option Sp} (T : TxR K mg C) (D : Dm K C "take" "Reader.take" (rd 5)) (A : ∀ f sp, Sf f = some sp → Held P w K mg base 4 f sp) (M1 : M0 P w K mg base C 5 "word" (spWd C CF)) (M2 : M0 P w K mg base C 4 "refuse" (spRef C CF)) : M0 P w K mg base C 6 "take" (spTake C CF Sf) := by
  obtain ⟨f, fd, F, hm⟩ := D.ex
  refine ⟨f, fd, ["self", "fits"], F.okX scTake (fun vs H Q E h => ?_) (fun cdv A0 outer s H vs Q E hr h => ?_), hm, F.binds (ps := ["self", "fits"]) fun _ _ _ _ _ _ us hl => match us, hl with | [_, _], _ => rfl⟩
  · obtain ⟨x, a, op, e, X1, X2, f, g, rfl, _⟩ := h
    rfl
  obtain ⟨x, a, op, e, X1, X2, ff, g, rfl, hS, o, R, ha, k1, k2, k3⟩ := h
  have R' := R
  obtain ⟨s0, dx, l1, l2, l3, X3, h1, _⟩ := R
  refine ⟨_, pss_cons (ps_set (i := 2) scTake.nd rfl (Or.inl rfl) (pe_mm0 T.cl M1 hr (Nat.le_refl _) (passes_call (takes_of rfl rfl rfl rfl) fun _ _ _ _ h => h) (pv 0))) <|
    pss_cons (ps_if (pt_not (pt_val (pe_callA (i := 1) (S := Sf) A (hr.mono (by decide)) rfl (Or.inl rfl) (pa_cons (pv 2) pa_nil))))
      (pss_one (ps_expr (pe_mm T.cl M2 hr (by decide) (passes_call (takes_of rfl rfl rfl rfl) fun _ _ _ _ h => h) (pv 0) (pa_cons pe_str pa_nil)))) pss_nil) <|
    pss_cons (ps_fldaug (pv 0) pe_int in_add) <| pss_one (ps_ret (pv 2)), ?_⟩
  refine ⟨_, rfl, x.p, dx, _, rfl, h1, by kernel_rfl, x, a, op, e, X1, X2, rfl, o, R', ha, fun k hk => ?_, fun h => k3 h⟩
  have wb := o.ww k (List.mem_of_getElem? hk)
  refine ⟨ff, _, rfl, hS, _, rfl, mk k.1, rfl, by rw [mk_len]; omega, fun H1 s1 => ⟨_, rfl, ?_⟩⟩
  have R1 := R'.same s1
  obtain ⟨dx2, fs, g1, g2, g3, g4⟩ := R1.at_ o (k := a + 1) (e' := e - 1) (by omega)
  refine ite2 (fun c => ?_) (fun c => ?_)
  · have c1 : g k.1 = false := by simpa using c
    exact ⟨_, rfl, x.p, dx, _, rfl, s1 _ _ h1, by kernel_rfl, x, a, op, e, X1, X2, _, k, rfl, o, R1, by decide +kernel, hk, k2 k hk c1⟩
  · have c1 : g k.1 = true := by simpa using c
    have ec : ((a : Nat) : Int) + 1 = ((a + 1 : Nat) : Int) := by omega
    refine ⟨_, rfl, x.p, C, dx2, fs, _, rfl, g1, T.cl, T.f5, g2, _, _, rfl, rfl, dx2, fs, g1, g3, ?_⟩
    rw [ec]
    exact ⟨_, rfl, k1 k hk c1 _ g4⟩
/-! leaf -/
abbrev sFF : Stmt := top 38
abbrev sLeaf : Stmt := top 39
def isFF (l : List Nat) : Bool := decide (l.head? = some 64) && isFree (l.drop 1)
def spFF : Sp := spB isFF
theorem scFF : FnScope ["word"] ["word"] (defScope sFF) := ⟨rfl, rfl, rfl, by decide +kernel, rfl, by decide +kernel, by decide +kernel⟩
theorem c_ff (D : Dn K mg "is_free_field" sFF) (G : C0 P w K mg base 4 "is_free" (spB isFree)) : C0 P w K mg base 5 "is_free_field" (spB isFF) := by
  obtain ⟨f, fd, F, m⟩ := D.ex
  refine ⟨f, fd, ["word"], F.ok scFF (fun vs H Q E h => ?_) (fun cdv A outer s H vs Q E hr h => ?_), m, F.kp, F.binds (ps := ["word"]) fun _ _ _ _ _ _ us hl => match us, hl with | [_], _ => rfl⟩
  · obtain ⟨z, rfl, _⟩ := h
    rfl
  obtain ⟨z, rfl, hz, k⟩ := h
  have hsz : z.length ≤ sizeLine := by rw [sizeLine_eq]; omega
  have hl := len_tl z
  refine ⟨_, pss_one (ps_ret (pe_and (pe_m1 PySem.F.slot_str_startswith PySem.F.type_str_startswith mt_startswith (pv 0) pe_str) (pe_one (pe_cc G hr (by decide) pass0 (pa_cons (pe_slice sl_str (pv 0) (po_some pe_int) po_none) pa_nil))))), ?_⟩
  refine ⟨_, rfl, ⟨_, rfl⟩, _, _, rfl, rfl, _, rfl, ?_⟩
  rw [s_at, starts1]
  refine ite2 (fun c => ?_) (fun c => ?_)
  · refine ⟨_, rfl, _, rfl, z, rfl, hsz, ?_⟩
    rw [cut1]
    refine ⟨_, rfl, by rw [mk_len, List.length_drop]; omega, fun H' s => ?_⟩
    have := k H' s
    unfold isFF at this
    rw [c, Bool.true_and] at this
    exact this
  · have c1 : decide ((tl z).head? = some 64) = false := by simpa using c
    have := k H (Same.refl H)
    unfold isFF at this
    rw [c1, Bool.false_and] at this
    exact this
def leafOK (l : List Nat) : Bool := isNum l || (decide (l.head? = some 39) || (inS ["true", "false"] l || (inS ["none", "self"] l || (isFree l || isFF l))))
def spLeaf : Sp := fun vs H Q _ => ∃ z : Str, vs = [.str z] ∧ z.length ≤ 1000 ∧ ∀ v H', Same H H' → (leafOK (tl z) = true → v ≠ .non) → (leafOK (tl z) = false → v = .non) → Q v H'
theorem scLeaf : FnScope ["word"] ["word"] (defScope sLeaf) := ⟨rfl, rfl, rfl, by decide +kernel, rfl, by decide +kernel, by decide +kernel⟩
theorem c_leaf (T : TxS K mg) (D : Dn K mg "leaf" sLeaf) (G1 : C0 P w K mg base 2 "is_number" (spB isNum)) (G2 : C0 P w K mg base 4 "is_free" (spB isFree)) (G3 : C0 P w K mg base 5 "is_free_field" (spB isFF)) : C0 P w K mg base 6 "leaf" spLeaf := by
  obtain ⟨f, fd, F, m⟩ := D.ex
  refine ⟨f, fd, ["word"], F.ok scLeaf (fun vs H Q E h => ?_) (fun cdv A outer s H vs Q E hr h => ?_), m, F.kp, F.binds (ps := ["word"]) fun _ _ _ _ _ _ us hl => match us, hl with | [_], _ => rfl⟩
  · obtain ⟨z, rfl, _⟩ := h
    rfl
  obtain ⟨z, rfl, hz, k⟩ := h
  have hsz : z.length ≤ sizeLine := by rw [sizeLine_eq]; omega
  have hl := len_tl z
  refine ⟨_, pss_cons (ps_if (pt_val (pe_cc G1 hr (by decide) pass0 (pa_cons (pv 0) pa_nil))) (pss_one (ps_ret (pe_tup (pa_cons pe_str (pa_cons (pe_callTy call_int_str (by rfl) T.int (by decide +kernel) (pa_cons (pv 0) pa_nil)) pa_nil))))) pss_nil) <|
    pss_cons (ps_if (pt_val (pe_m1 PySem.F.slot_str_startswith PySem.F.type_str_startswith mt_startswith (pv 0) pe_str)) (pss_one (ps_ret (pe_tup (pa_cons pe_str (pa_cons (pe_slice sl_str (pv 0) (po_some pe_int) po_none) pa_nil))))) pss_nil) <|
    pss_cons (ps_if (pt_cmpR op_in_seq (pv 0) (pe_tup (pa_cons pe_str (pa_cons pe_str pa_nil))) rfl) (pss_one (ps_ret (pe_tup (pa_cons pe_str (pa_cons (pe_cmpR op_eq (pv 0) pe_str (nomark _)) pa_nil))))) pss_nil) <|
    pss_cons (ps_if (pt_cmpR op_in_seq (pv 0) (pe_tup (pa_cons pe_str (pa_cons pe_str pa_nil))) rfl) (pss_one (ps_ret (pe_tup (pa_cons (pv 0) pa_nil)))) pss_nil) <|
    pss_cons (ps_if (pt_val (pe_cc G2 hr (by decide) pass0 (pa_cons (pv 0) pa_nil))) (pss_one (ps_ret (pe_tup (pa_cons pe_str (pa_cons (pv 0) pa_nil))))) pss_nil) <|
    pss_cons (ps_if (pt_val (pe_cc G3 hr (by decide) pass0 (pa_cons (pv 0) pa_nil))) (pss_one (ps_ret (pe_tup (pa_cons pe_str (pa_cons (pe_slice sl_str (pv 0) (po_some pe_int) po_none) pa_nil))))) pss_nil) <|
    pss_one (ps_ret pe_non), ?_⟩
  have hin : ∀ zs : List Str, inV (.str z) (zs.map V.str) = inS zs (tl z) := fun zs => by
    rw [inV_strs]
    unfold inS
    rw [mk_tl]
  -- an answer that is a new tuple
  have ret : leafOK (tl z) = true → ∀ (H1 : Hp) (p : Addr) (xs : List V), Same H H1 → H1 p = none → Q (.ref p) (upd H1 p (.tup xs)) := fun ok H1 p xs s1 n => k _ _ (s1.trans (same_new n _)) (fun _ q => by cases q) (fun q => by rw [ok] at q; cases q)
  refine ⟨_, rfl, z, rfl, by omega, fun H1 s1 => ⟨_, rfl, ?_⟩⟩
  refine ite2 (fun c1 => ?_) (fun c1 => ?_)
  · have hn : intText? z = some (numOf (tl z)) ∧ z.length ≤ 14 := by
      unfold isNum at c1
      rw [Bool.and_eq_true, Bool.and_eq_true] at c1
      obtain ⟨d1, d2, _⟩ := c1
      have d3 := of_decide_eq_true d1
      obtain ⟨n1, _, n3⟩ := num_facts d3.1 d3.2 d2
      rw [mk_tl] at n1 n3
      exact ⟨n1, n3⟩
    have ok : leafOK (tl z) = true := by unfold leafOK; rw [c1]; rfl
    refine ⟨_, rfl, z, _, rfl, hn.1, by omega, by show 2 ≤ sizeLine; decide, fun p hp => ret ok _ p _ s1 hp⟩
  have c1' : isNum (tl z) = false := by simpa using c1
  refine ⟨_, rfl, ⟨_, rfl⟩, _, _, rfl, rfl, _, rfl, ?_⟩
  rw [s_quote, starts1]
  refine ite2 (fun c2 => ?_) (fun c2 => ?_)
  · have ok : leafOK (tl z) = true := by unfold leafOK; rw [c1', c2]; rfl
    exact ⟨_, rfl, _, rfl, z, rfl, hsz, by show 2 ≤ sizeLine; decide, fun p hp => ret ok _ p _ s1 hp⟩
  have c2' : decide ((tl z).head? = some 39) = false := by simpa using c2
  refine ⟨_, rfl, by show 2 ≤ sizeLine; decide, fun t1 ht1 => ?_⟩
  have s2 := s1.trans (same_new ht1 (.tup [.str (Str.ofString "true"), .str (Str.ofString "false")]))
  refine ⟨t1, (["true", "false"] : List Str).map V.str, rfl, .inr (SqT.of upd_same), rfl, flat_strs _, _, rfl, ?_⟩
  rw [if_neg (by decide : ¬ false = true), hin]
  refine ite2 (fun c3 => ?_) (fun c3 => ?_)
  · have ok : leafOK (tl z) = true := by unfold leafOK; rw [c1', c2', c3]; rfl
    exact ⟨_, rfl, rfl, by show 2 ≤ sizeLine; decide, fun p hp => ret ok _ p _ s2 hp⟩
  have c3' : inS ["true", "false"] (tl z) = false := by simpa using c3
  refine ⟨_, rfl, by show 2 ≤ sizeLine; decide, fun t2 ht2 => ?_⟩
  have s3 := s2.trans (same_new ht2 (.tup [.str (Str.ofString "none"), .str (Str.ofString "self")]))
  refine ⟨t2, (["none", "self"] : List Str).map V.str, rfl, .inr (SqT.of upd_same), rfl, flat_strs _, _, rfl, ?_⟩
  rw [if_neg (by decide : ¬ false = true), hin]
  refine ite2 (fun c4 => ?_) (fun c4 => ?_)
  · have ok : leafOK (tl z) = true := by unfold leafOK; rw [c1', c2', c3', c4]; rfl
    exact ⟨_, rfl, by show 1 ≤ sizeLine; decide, fun p hp => ret ok _ p _ s3 hp⟩
  have c4' : inS ["none", "self"] (tl z) = false := by simpa using c4
  refine ⟨_, rfl, z, rfl, by omega, fun H4 s4 => ⟨_, rfl, ?_⟩⟩
  refine ite2 (fun c5 => ?_) (fun c5 => ?_)
  · have ok : leafOK (tl z) = true := by unfold leafOK; rw [c1', c2', c3', c4', c5]; rfl
    exact ⟨_, rfl, by show 2 ≤ sizeLine; decide, fun p hp => ret ok _ p _ (s3.trans s4) hp⟩
  have c5' : isFree (tl z) = false := by simpa using c5
  refine ⟨_, rfl, z, rfl, by omega, fun H5 s5 => ⟨_, rfl, ?_⟩⟩
  refine ite2 (fun c6 => ?_) (fun c6 => ?_)
  · have ok : leafOK (tl z) = true := by unfold leafOK; rw [c1', c2', c3', c4', c5', c6]; rfl
    exact ⟨_, rfl, _, rfl, z, rfl, hsz, by show 2 ≤ sizeLine; decide, fun p hp => ret ok _ p _ ((s3.trans s4).trans s5) hp⟩
  have c6' : isFF (tl z) = false := by simpa using c6
  have no : leafOK (tl z) = false := by unfold leafOK; rw [c1', c2', c3', c4', c5', c6']; rfl
  exact k _ _ ((s3.trans s4).trans s5) (fun q => by rw [no] at q; cases q) (fun _ => rfl)
end
end My
namespace My
open PySem L2 SS
theorem pe_never {X : Cx} {e : Expr} : PE X e (fun _ _ _ => False) := ⟨fun _ _ _ _ _ _ h => h.elim⟩
/-! ### the ground on which the reader stands may be more -/
def RX.on (x : RX) (H0 : Hp) : RX := { x with H0 := H0 }
theorem RX.Ok.on {x : RX} (o : x.Ok) {H0 : Hp} (t : Tups x.H0 H0) (p0 : H0 x.p = none) : (x.on H0).Ok :=
  ⟨t _ _ o.hw, o.al.on t, o.ln, t _ _ o.hq, o.rb, o.cb, o.pb, o.wb, o.ww, p0⟩
theorem FE.on {CF : Addr} {x : RX} {E : XK} {r c : Nat} {z : Str} (h : FE CF x E r c z) {H0 : Hp} (s : Same x.H0 H0) : FE CF (x.on H0) E r c z := fun d H' s' hx => h d H' (s.trans s') hx
section
variable {P : Program} {w : World} {K : PySem.W.Frag} {mg : Str → Option Value} {base : Heap} {S CF fI fS C : Addr}
theorem Rd.add {x : RX} {H : Hp} {a op e : Nat} {X1 X2 : List V} (h : Rd C x H a op e X1 X2) {l : Addr} (n : H l = none) (o : HO) : Rd C (x.on (upd x.H0 l o)) (upd H l o) a op e X1 X2 := by
  obtain ⟨s, dx, l1, l2, l3, X3, h1, n1, n2, n3, h2, h3, h4, r⟩ := h
  have ne : ∀ {b : Addr} {u : HO}, H b = some u → b ≠ l := fun {b u} z => ne_of_none z n
  have up : ∀ {b : Addr} {u : HO}, H b = some u → upd H l o b = some u := fun {b u} z => by rw [upd_ne (ne z)]; exact z
  have un : ∀ {b : Addr} {u : HO}, H b = some u → x.H0 b = none → upd x.H0 l o b = none := fun {b u} z y => by rw [upd_ne (ne z)]; exact y
  refine ⟨fun b u z => ?_, dx, l1, l2, l3, X3, up h1, un h2 n1, un h3 n2, un h4 n3, up h2, up h3, up h4, r⟩
  by_cases c : b = l
  · subst c
    have z' : upd x.H0 b o b = some u := z
    rw [upd_same] at z'
    rw [upd_same]
    exact z'
  · have z' : upd x.H0 l o b = some u := z
    rw [upd_ne c] at z'
    rw [upd_ne c]
    exact s b u z'
theorem Rd.put {x : RX} (o : x.Ok) {H : Hp} {a op e : Nat} {X1 X2 Y : List V} (h : Rd C x H a op e X1 X2) {l : Addr} (n : x.H0 l = some (.lst Y)) (Y' : List V) : Rd C (x.on (upd x.H0 l (.lst Y'))) (upd H l (.lst Y')) a op e X1 X2 := by
  obtain ⟨s, dx, l1, l2, l3, X3, h1, n1, n2, n3, h2, h3, h4, r⟩ := h
  have ne : ∀ {b : Addr}, x.H0 b = none → b ≠ l := fun {b} y => fun q => by rw [q, n] at y; cases y
  have up : ∀ {b : Addr} {u : HO}, x.H0 b = none → H b = some u → upd H l (.lst Y') b = some u := fun {b u} y z => by rw [upd_ne (ne y)]; exact z
  have un : ∀ {b : Addr}, x.H0 b = none → upd x.H0 l (.lst Y') b = none := fun {b} y => by rw [upd_ne (ne y)]; exact y
  refine ⟨fun b u z => ?_, dx, l1, l2, l3, X3, up o.p0 h1, un n1, un n2, un n3, up n1 h2, up n2 h3, up n3 h4, r⟩
  by_cases c : b = l
  · subst c
    have z' : upd x.H0 b (.lst Y') b = some u := z
    rw [upd_same] at z'
    rw [upd_same]
    exact z'
  · have z' : upd x.H0 l (.lst Y') b = some u := z
    rw [upd_ne c] at z'
    rw [upd_ne c]
    exact s b u z'
theorem Rd.back {x : RX} {H0 : Hp} {H : Hp} {a op e : Nat} {X1 X2 : List V} (h : Rd C (x.on H0) H a op e X1 X2) (s0 : Same x.H0 H0) : Rd C x H a op e X1 X2 := by
  obtain ⟨s, dx, l1, l2, l3, X3, h1, n1, n2, n3, h2, h3, h4, r⟩ := h
  have un : ∀ {b : Addr}, H0 b = none → x.H0 b = none := fun {b} y => s0.free y
  exact ⟨s0.trans s, dx, l1, l2, l3, X3, h1, un n1, un n2, un n3, h2, h3, h4, r⟩
/-! expression -/
def NB (l : List Nat) : Prop := mk l ≠ "(" ∧ mk l ≠ "[" ∧ mk l ≠ "{" ∧ mk l ≠ "new"
def spEx (C CF : Addr) : Sp := fun vs H Q E => ∃ (x : RX) (a op e : Nat) (X1 X2 : List V) (k : W), vs = [.ref x.p] ∧ x.Ok ∧ Rd C x H a op e X1 X2 ∧ e ≤ 10 ∧ x.ws[a]? = some k ∧ NB k.1 ∧
  (leafOK k.1 = true → ∀ v H', Rd C x H' (a + 1) op e X1 X2 → Q v H') ∧ (leafOK k.1 = false → FE CF x E k.2.1 k.2.2 "word")
theorem scEx : FnScope ["self", "word", "tree"] ["self"] (defScope (rd 22)) := ⟨rfl, rfl, rfl, by decide +kernel, rfl, by decide +kernel, by decide +kernel⟩
theorem m_ex (T : TxR K mg C) (D : Dm K C "expression" "Reader.expression" (rd 22)) (G : C0 P w K mg base 6 "leaf" spLeaf) (M1 : M0 P w K mg base C 5 "word" (spWd C CF)) (M2 : M0 P w K mg base C 4 "refuse" (spRef C CF)) : M0 P w K mg base C 7 "expression" (spEx C CF) := by
  obtain ⟨f, fd, F, hm⟩ := D.ex
  refine ⟨f, fd, ["self"], F.okX scEx (fun vs H Q E h => ?_) (fun cdv A0 outer s H vs Q E hr h => ?_), hm, F.binds (ps := ["self"]) fun _ _ _ _ _ _ us hl => match us, hl with | [_], _ => rfl⟩
  · obtain ⟨x, a, op, e, X1, X2, k, rfl, _⟩ := h
    rfl
  obtain ⟨x, a, op, e, X1, X2, k, rfl, o, R, he, hk, hnb, k1, k2⟩ := h
  have R' := R
  obtain ⟨s0, dx, l1, l2, l3, X3, h1, _⟩ := R
  have ha : a < x.ws.length := (List.getElem?_eq_some_iff.mp hk).1
  have oln := o.ln
  refine ⟨_, pss_cons (ps_set (i := 1) scEx.nd rfl (Or.inl rfl) (pe_mm0 T.cl M1 hr (by decide) (passes_call (takes_of rfl rfl rfl rfl) fun _ _ _ _ h => h) (pv 0))) <|
    pss_cons (ps_expr (pe_bm PySem.F.plainAttrs_list PySem.F.slot_list_append PySem.F.type_list_append mt_append (pe_fld (pv 0) rfl) (pa_cons (pe_fld (pv 0) rfl) pa_nil))) <|
    pss_cons (ps_if (pt_cmpR op_eq (pv 1) pe_str (nomark _)) pss_never pss_nil) <|
    pss_cons (ps_if (pt_cmpR op_eq (pv 1) pe_str (nomark _)) pss_never pss_nil) <|
    pss_cons (ps_if (pt_cmpR op_eq (pv 1) pe_str (nomark _)) pss_never pss_nil) <|
    pss_cons (ps_if (pt_cmpR op_eq (pv 1) pe_str (nomark _)) pss_never pss_nil) <|
    pss_cons (ps_set (i := 2) scEx.nd rfl (Or.inl rfl) (pe_cc G hr (by decide) pass0 (pa_cons (pv 1) pa_nil))) <|
    pss_cons (ps_if (pt_cmpR op_isN (pv 2) pe_non (nomark _)) (pss_one (ps_expr (pe_mm T.cl M2 hr (by decide) (passes_call (takes_of rfl rfl rfl rfl) fun _ _ _ _ h => h) (pv 0) (pa_cons pe_str pa_nil)))) pss_nil) <|
    pss_cons (ps_fldaug (pv 0) pe_int in_add) <| pss_one (ps_ret (pv 2)), ?_⟩
  refine ⟨_, rfl, x.p, dx, _, rfl, h1, by kernel_rfl, x, a, op, e, X1, X2, rfl, o, R', by omega, fun k' hk' => ?_, fun h => by omega⟩
  rw [hk] at hk'
  obtain rfl := Option.some.inj hk'
  obtain ⟨dx2, fs, m3, Y3, g1, g2, g3, g4, g5, g6⟩ := R'.node o (.int (a : Nat))
  refine ⟨_, rfl, x.p, C, dx2, fs, _, rfl, g1, T.cl, T.f9, g2, .inl ⟨rfl, _, SqL.of g4⟩, _, rfl, x.p, C, dx2, fs, _, rfl, g1, T.cl, T.f5, g3, m3, Y3, _, rfl, rfl, g4, by rw [sizeLine_eq]; omega, ?_⟩
  generalize upd H m3 (.lst (Y3 ++ [.int (a : Nat)])) = H1 at g6 ⊢
  refine ⟨_, rfl, rfl, _, rfl, ?_⟩
  rw [dec_str, decide_eq_false hnb.1]
  refine iteF ⟨_, rfl, rfl, _, rfl, ?_⟩
  rw [dec_str, decide_eq_false hnb.2.1]
  refine iteF ⟨_, rfl, rfl, _, rfl, ?_⟩
  rw [dec_str, decide_eq_false hnb.2.2.1]
  refine iteF ⟨_, rfl, rfl, _, rfl, ?_⟩
  rw [dec_str, decide_eq_false hnb.2.2.2]
  have wb := o.ww k (List.mem_of_getElem? hk)
  refine iteF ⟨_, rfl, mk k.1, rfl, by rw [mk_len]; omega, fun v H2 s2 y1 y2 => ?_⟩
  have R2 := g6.same s2
  refine ⟨_, rfl, rfl, _, rfl, ?_⟩
  obtain ⟨dx3, fs3, j1, j2, j3, j4⟩ := R2.at_ o (k := a + 1) (e' := e) (by omega)
  refine ite2 (fun c => ?_) (fun c => ?_)
  · have c1 : v = .non := of_decide_eq_true c
    have c2 : leafOK k.1 = false := by
      cases q : leafOK k.1 with
      | false => rfl
      | true => exact absurd c1 (y1 q)
    obtain ⟨s4, dx4, m1, m2, m4, Y4, i1, _⟩ := R2
    exact ⟨_, rfl, x.p, dx4, _, rfl, i1, by kernel_rfl, x, a, op, e + 1, X1, X2, _, k, rfl, o, g6.same s2, by decide +kernel, hk, k2 c2⟩
  · have c1 : ¬ v = .non := of_decide_eq_false (Bool.eq_false_iff.mpr c)
    have c2 : leafOK k.1 = true := by
      cases q : leafOK k.1 with
      | true => rfl
      | false => exact absurd (y2 q) c1
    have ec : ((a : Nat) : Int) + 1 = ((a + 1 : Nat) : Int) := by omega
    refine ⟨_, rfl, x.p, C, dx3, fs3, _, rfl, j1, T.cl, T.f5, j2, _, _, rfl, rfl, dx3, fs3, j1, j3, ?_⟩
    rw [ec]
    exact ⟨_, rfl, k1 c2 v _ j4⟩
/-! new_worth -/
def spNW (C : Addr) : Sp := fun vs H Q _ => ∃ (x : RX) (a op e : Nat) (X1 X2 : List V) (k1 k2 : W), vs = [.ref x.p] ∧ x.Ok ∧ Rd C x H a op e X1 X2 ∧ e ≤ 10 ∧ x.ws[a]? = some k1 ∧ mk k1.1 = ":=" ∧ x.ws[a + 1]? = some k2 ∧ NB k2.1 ∧ leafOK k2.1 = true ∧ ∀ v H', Rd C x H' (a + 2) op e X1 X2 → Q v H'
theorem scNW : FnScope ["self"] ["self"] (defScope (rd 17)) := ⟨rfl, rfl, rfl, by decide +kernel, rfl, by decide +kernel, by decide +kernel⟩
theorem m_nw (T : TxR K mg C) (D : Dm K C "new_worth" "Reader.new_worth" (rd 17)) (M1 : M0 P w K mg base C 6 "skip" (spSkip C CF)) (M2 : M0 P w K mg base C 7 "expression" (spEx C CF)) : M0 P w K mg base C 8 "new_worth" (spNW C) := by
  obtain ⟨f, fd, F, hm⟩ := D.ex
  refine ⟨f, fd, ["self"], F.okX scNW (fun vs H Q E h => ?_) (fun cdv A0 outer s H vs Q E hr h => ?_), hm, F.binds (ps := ["self"]) fun _ _ _ _ _ _ us hl => match us, hl with | [_], _ => rfl⟩
  · obtain ⟨x, a, op, e, X1, X2, k1, k2, rfl, _⟩ := h
    rfl
  obtain ⟨x, a, op, e, X1, X2, k1, k2, rfl, o, R, he, hk1, hs, hk2, hnb, hlf, k⟩ := h
  have R' := R
  obtain ⟨s0, dx, l1, l2, l3, X3, h1, _⟩ := R
  have ha : a < x.ws.length := (List.getElem?_eq_some_iff.mp hk1).1
  refine ⟨_, pss_cons (ps_expr (pe_mm T.cl M1 hr (by decide) (passes_call (takes_of rfl rfl rfl rfl) fun _ _ _ _ h => h) (pv 0) (pa_cons pe_str pa_nil))) <|
    pss_one (ps_ret (pe_mm0 T.cl M2 hr (by decide) (passes_call (takes_of rfl rfl rfl rfl) fun _ _ _ _ h => h) (pv 0))), ?_⟩
  refine ⟨_, rfl, x.p, dx, _, rfl, h1, by kernel_rfl, x, a, op, e, X1, X2, _, rfl, o, R', by omega, fun k' hk' _ H1 R1 => ?_, fun k' hk' hn => ?_, fun h => by omega⟩
  · have R1' := R1.slack (e' := e) (by omega)
    obtain ⟨s4, dx4, m1, m2, m4, Y4, i1, _⟩ := R1
    exact ⟨_, rfl, x.p, dx4, _, rfl, i1, by kernel_rfl, x, a + 1, op, e, X1, X2, k2, rfl, o, R1', he, hk2, hnb, fun _ v H' RR => k v H' RR, fun q => by rw [hlf] at q; cases q⟩
  · rw [hk1] at hk'
    obtain rfl := Option.some.inj hk'
    exact absurd hs hn
end
end My
namespace My
open PySem L2 SS
section
variable {P : Program} {w : World} {K : PySem.W.Frag} {mg : Str → Option Value} {base : Heap} {S CF fI fS C fF fK : Addr}
/-- the two tests that are handed to take -/
def Sf (fF fK : Addr) : Addr → Option Sp := fun f => if f = fF then some (spB isFree) else if f = fK then some (spB isKindName) else none
theorem Rd.obj {x : RX} {H : Hp} {a op e : Nat} {X1 X2 : List V} (h : Rd C x H a op e X1 X2) : ∃ dx l1 l2 l3, H x.p = some (.ins C dx (rf x.pg x.wl (.ref x.q) x.why a op l1 l2 l3)) := by
  obtain ⟨s0, dx, l1, l2, l3, X3, h1, _⟩ := h
  exact ⟨dx, l1, l2, l3, h1⟩
/-! statement -/
def spSt (C CF : Addr) : Sp := fun vs H Q E => ∃ (x : RX) (a op e : Nat) (X1 X2 : List V), vs = [.ref x.p] ∧ x.Ok ∧ Rd C x H a op e X1 X2 ∧ e ≤ 5 ∧
  ((∃ k1 k2 : W, x.ws[a]? = some k1 ∧ x.ws[a + 1]? = some k2 ∧ Plain k1.1 ∧ NB k2.1 ∧ (leafOK k2.1 = true → ∀ v H', Rd C x H' (a + 2) op e X1 X2 → Q v H') ∧ (leafOK k2.1 = false → FE CF x E k2.2.1 k2.2.2 "word")) ∨
   (∃ k1 k2 k3 : W, x.ws[a]? = some k1 ∧ x.ws[a + 1]? = some k2 ∧ x.ws[a + 2]? = some k3 ∧ k1.1 = tX ∧ k2.1 = tSet ∧ NB k3.1 ∧ leafOK k3.1 = true ∧ ∀ v H', Rd C x H' (a + 3) op e X1 X2 → Q v H'))
theorem scSt : FnScope ["self", "word"] ["self"] (defScope (rd 16)) := ⟨rfl, rfl, rfl, by decide +kernel, rfl, by decide +kernel, by decide +kernel⟩
def PLs : List Str := ["do", "say", "return", "raise"]
theorem plain_in {l : List Nat} (h : Plain l) : inS PLs l = true := by
  rcases h with h | h | h <;> subst h <;> decide +kernel
theorem x_free : isFree tX = true := by decide +kernel
theorem m_st (T : TxR K mg C) (D : Dm K C "statement" "Reader.statement" (rd 16)) (mPL : GT K mg "PLAIN_STATEMENTS" PLs) (gF : mg "is_free" = some (.ref fF)) (M1 : M0 P w K mg base C 5 "word" (spWd C CF)) (M2 : M0 P w K mg base C 6 "take" (spTake C CF (Sf fF fK))) (M3 : M0 P w K mg base C 7 "expression" (spEx C CF)) (M4 : M0 P w K mg base C 8 "new_worth" (spNW C)) :
    M0 P w K mg base C 9 "statement" (spSt C CF) := by
  obtain ⟨f, fd, F, hm⟩ := D.ex
  refine ⟨f, fd, ["self"], F.okX scSt (fun vs H Q E h => ?_) (fun cdv A0 outer s H vs Q E hr h => ?_), hm, F.binds (ps := ["self"]) fun _ _ _ _ _ _ us hl => match us, hl with | [_], _ => rfl⟩
  · obtain ⟨x, a, op, e, X1, X2, rfl, _⟩ := h
    rfl
  obtain ⟨x, a, op, e, X1, X2, rfl, o, R, he, hcase⟩ := h
  obtain ⟨dx, l1, l2, l3, h1⟩ := R.obj
  have oln := o.ln
  refine ⟨_, pss_cons (ps_set (i := 1) scSt.nd rfl (Or.inl rfl) (pe_mm0 T.cl M1 hr (by decide) (passes_call (takes_of rfl rfl rfl rfl) fun _ _ _ _ h => h) (pv 0))) <|
    pss_cons (ps_expr (pe_bm PySem.F.plainAttrs_list PySem.F.slot_list_append PySem.F.type_list_append mt_append (pe_fld (pv 0) rfl) (pa_cons (pe_fld (pv 0) rfl) pa_nil))) <|
    pss_cons (ps_if (pt_cmpR op_in_seq (pv 1) (pe_gt mPL) rfl) (pss_cons (ps_fldaug (pv 0) pe_int in_add) (pss_one (ps_ret (pe_tup (pa_cons (pv 1) (pa_cons (pe_mm0 T.cl M3 hr (by decide) (passes_call (takes_of rfl rfl rfl rfl) fun _ _ _ _ h => h) (pv 0)) pa_nil)))))) pss_nil) <|
    pss_cons (ps_if (pt_cmpR op_eq (pv 1) pe_str (nomark _)) pss_never pss_nil) <|
    pss_cons (ps_if (pt_cmpR op_eq (pv 1) pe_str (nomark _)) pss_never pss_nil) <|
    pss_cons (ps_if (pt_cmpR op_eq (pv 1) pe_str (nomark _)) pss_never pss_nil) <|
    pss_cons (ps_if (pt_val (pe_m1 PySem.F.slot_str_startswith PySem.F.type_str_startswith mt_startswith (pv 1) pe_str)) pss_never pss_nil) <|
    pss_one (ps_ret (pe_tup (pa_cons pe_str (pa_cons (pe_mm T.cl M2 hr (by decide) (passes_call (takes_of rfl rfl rfl rfl) fun _ _ _ _ h => h) (pv 0) (pa_cons (pe_glob (v := .ref fF) (by rfl) gF rfl) pa_nil)) (pa_cons (pe_mm0 T.cl M4 hr (by decide) (passes_call (takes_of rfl rfl rfl rfl) fun _ _ _ _ h => h) (pv 0)) pa_nil))))), ?_⟩
  have ha : a < x.ws.length := by
    rcases hcase with ⟨k1, _, h, _⟩ | ⟨k1, _, _, h, _⟩
    · exact (List.getElem?_eq_some_iff.mp h).1
    · exact (List.getElem?_eq_some_iff.mp h).1
  refine ⟨_, rfl, x.p, dx, _, rfl, h1, by kernel_rfl, x, a, op, e, X1, X2, rfl, o, R, by omega, fun k hk => ?_, fun h => by omega⟩
  obtain ⟨dx2, fs, m3, Y3, g1, g2, g3, g4, g5, g6⟩ := R.node o (.int (a : Nat))
  refine ⟨_, rfl, x.p, C, dx2, fs, _, rfl, g1, T.cl, T.f9, g2, .inl ⟨rfl, _, SqL.of g4⟩, _, rfl, x.p, C, dx2, fs, _, rfl, g1, T.cl, T.f5, g3, m3, Y3, _, rfl, rfl, g4, by rw [sizeLine_eq]; omega, ?_⟩
  generalize upd H m3 (.lst (Y3 ++ [.int (a : Nat)])) = H1 at g6 ⊢
  have hin : inV (.str (mk k.1)) (PLs.map V.str) = inS PLs k.1 := by rw [inV_strs]; rfl
  refine ⟨_, rfl, fun pl hpl => ⟨pl, _, rfl, .inr hpl, rfl, flat_strs _, _, rfl, ?_⟩⟩
  rw [if_neg (by decide : ¬ false = true), hin]
  have ec : ((a : Nat) : Int) + 1 = ((a + 1 : Nat) : Int) := by omega
  rcases hcase with ⟨k1, k2, hk1, hk2, hp, hnb, c1, c2⟩ | ⟨k1, k2, k3, hk1, hk2, hk3, e1, e2, hnb, hlf, c1⟩
  · rw [hk1] at hk
    obtain rfl := Option.some.inj hk
    rw [plain_in hp]
    refine iteT ?_
    obtain ⟨dx3, fs3, j1, j2, j3, j4⟩ := g6.at_ o (k := a + 1) (e' := e) (by omega)
    refine ⟨_, rfl, x.p, C, dx3, fs3, _, rfl, j1, T.cl, T.f5, j2, _, _, rfl, rfl, dx3, fs3, j1, j3, ?_⟩
    rw [ec]
    generalize upd H1 x.p (.ins C dx3 (putF "at" (.int ((a + 1 : Nat) : Int)) fs3)) = H2 at j4 ⊢
    obtain ⟨dx4, m1, m2, m4, i1⟩ := j4.obj
    refine ⟨_, rfl, _, rfl, x.p, dx4, _, rfl, i1, by kernel_rfl, x, a + 1, op, e, X1, X2, k2, rfl, o, j4, by omega, hk2, hnb, fun ok v H' RR => ?_, fun no => c2 no⟩
    exact ⟨by show 2 ≤ sizeLine; decide, fun p hp => c1 ok _ _ (RR.new hp _)⟩
  · rw [hk1] at hk
    obtain rfl := Option.some.inj hk
    rw [e1, show inS PLs tX = false by decide +kernel]
    refine iteF ⟨_, rfl, rfl, _, rfl, ?_⟩
    rw [dec_str, decide_eq_false (by decide +kernel : ¬ mk tX = Str.ofString "if")]
    refine iteF ⟨_, rfl, rfl, _, rfl, ?_⟩
    rw [dec_str, decide_eq_false (by decide +kernel : ¬ mk tX = Str.ofString "while")]
    refine iteF ⟨_, rfl, rfl, _, rfl, ?_⟩
    rw [dec_str, decide_eq_false (by decide +kernel : ¬ mk tX = Str.ofString "try")]
    refine iteF ⟨_, rfl, ⟨_, rfl⟩, _, _, rfl, rfl, _, rfl, ?_⟩
    rw [show Txt.startswith (mk tX) (Str.ofString "@") = false by rw [s_at, starts1]; rfl]
    refine iteF ?_
    obtain ⟨dx4, m1, m2, m4, i1⟩ := g6.obj
    refine ⟨_, rfl, x.p, dx4, _, rfl, i1, by kernel_rfl, x, a, op, e + 1, X1, X2, fF, isFree, rfl, if_pos rfl, o, g6, by omega, fun k' hk' _ H2 R2 => ?_, fun k' hk' hn => ?_, fun h => by omega⟩
    · have R2' := R2.slack (e' := e) (by omega)
      obtain ⟨dx5, n1, n2, n4, ii⟩ := R2.obj
      refine ⟨_, rfl, x.p, dx5, _, rfl, ii, by kernel_rfl, x, a + 1, op, e, X1, X2, k2, k3, rfl, o, R2', by omega, hk2, by rw [e2]; decide +kernel, hk3, hnb, hlf, fun v H' RR => ?_⟩
      exact ⟨by show 3 ≤ sizeLine; decide, fun p hp => c1 _ _ (RR.new hp _)⟩
    · rw [hk1] at hk'
      obtain rfl := Option.some.inj hk'
      rw [e1, x_free] at hn
      cases hn
/-! statements, up to end -/
def Leaf' (e : List Nat) : Prop := NB e ∧ leafOK e = true
theorem leaf_ok {e : List Nat} (h : Leaf e) : Leaf' e := by
  rcases h with h | h | h | h | h <;> subst h <;> exact ⟨⟨by decide +kernel, by decide +kernel, by decide +kernel, by decide +kernel⟩, by decide +kernel⟩
theorem rb_not : NB tRb ∧ leafOK tRb = false := ⟨⟨by decide +kernel, by decide +kernel, by decide +kernel, by decide +kernel⟩, by decide +kernel⟩
/-- what may stand behind the statements -/
def TailOk (C CF : Addr) (x : RX) (a op e : Nat) (X1 X2 : List V) (Q : VK) (E : XK) (t : List W) : Prop :=
  (∃ k r, t = k :: r ∧ k.1 = tEnd ∧ ∀ v H', Rd C x H' (x.ws.length - r.length) op e X1 X2 → Q v H') ∨ (t = [] ∧ SE_ CF x E) ∨ (∃ q p r, t = (tDo, q) :: (tRb, p) :: r ∧ FE CF x E p.1 p.2 "word")
def spSts (C CF : Addr) : Sp := fun vs H Q E => ∃ (x : RX) (a op e : Nat) (X1 X2 : List V) (Sx t : List W), vs = [.ref x.p, .str "end"] ∧ x.Ok ∧ Rd C x H a op e X1 X2 ∧ e ≤ 5 ∧ a ≤ x.ws.length ∧ x.ws.drop a = Sx ++ t ∧ Stms (Sx.map (·.1)) ∧ TailOk C CF x a op e X1 X2 Q E t
theorem scSts : FnScope ["self", "last", "statements"] ["self", "last"] (defScope (rd 15)) := ⟨rfl, rfl, rfl, by decide +kernel, rfl, by decide +kernel, by decide +kernel⟩
theorem drop_get {α : Type} {l : List α} {a : Nat} {k : α} {r : List α} (h : l.drop a = k :: r) : l[a]? = some k ∧ l.drop (a + 1) = r := by
  have h1 : (l.drop a)[0]? = some k := by rw [h]; rfl
  rw [List.getElem?_drop, Nat.add_zero] at h1
  refine ⟨h1, ?_⟩
  have : (l.drop a).drop 1 = r := by rw [h]; rfl
  rw [List.drop_drop] at this
  exact this
theorem plain_not_end {l : List Nat} (p : Plain l) : mk l ≠ "end" := by
  rcases p with p | p | p <;> rw [p] <;> decide +kernel
theorem stm_cases {Sx : List W} (h : Stms (Sx.map (·.1))) : Sx = [] ∨ (∃ k1 k2 S', Sx = k1 :: k2 :: S' ∧ Plain k1.1 ∧ Leaf k2.1 ∧ Stms (S'.map (·.1))) ∨
    (∃ k1 k2 k3 S', Sx = k1 :: k2 :: k3 :: S' ∧ k1.1 = tX ∧ k2.1 = tSet ∧ Leaf k3.1 ∧ Stms (S'.map (·.1))) := by
  obtain ⟨l, hl⟩ : ∃ l, l = Sx.map (·.1) := ⟨_, rfl⟩
  rw [← hl] at h
  cases h with
  | nil =>
    cases Sx with
    | nil => exact .inl rfl
    | cons _ _ => cases hl
  | plain p q r =>
    rcases Sx with _ | ⟨k1, _ | ⟨k2, S'⟩⟩
    · cases hl
    · cases hl
    · rw [List.map_cons, List.map_cons] at hl
      injection hl with h1 h2
      injection h2 with h2 h3
      subst h1 h2 h3
      exact .inr (.inl ⟨k1, k2, S', rfl, p, q, r⟩)
  | set q r =>
    rcases Sx with _ | ⟨k1, _ | ⟨k2, _ | ⟨k3, S'⟩⟩⟩
    · simp at hl
    · simp at hl
    · simp at hl
    · rw [List.map_cons, List.map_cons, List.map_cons] at hl
      injection hl with h1 h2
      injection h2 with h2 h3
      injection h3 with h3 h4
      subst h3 h4
      exact .inr (.inr ⟨k1, k2, k3, S', rfl, h1.symm, h2.symm, q, r⟩)
theorem drop_none {α : Type} {l : List α} {a : Nat} (h : l.drop a = []) (ha : a ≤ l.length) : a = l.length := by
  have := congrArg List.length h
  rw [List.length_drop, List.length_nil] at this
  omega
def StInv (C : Addr) (x : RX) (op e : Nat) (X1 X2 : List V) (t : List W) (l : Addr) (m : Nat) (σ : L2.St) (H1 : Hp) : Prop :=
  ∃ (H0' : Hp) (a' : Nat) (S' : List W) (Y : List V), σ = [some (V.ref x.p), some (V.str "end"), some (V.ref l)] ∧ m = S'.length ∧ Same x.H0 H0' ∧ H0' l = some (HO.lst Y) ∧ H0' x.p = none ∧ Y.length ≤ a' ∧ a' ≤ x.ws.length ∧
      x.ws.drop a' = S' ++ t ∧ Stms (S'.map (·.1)) ∧ Rd C (x.on H0') H1 a' op e X1 X2
theorem m_sts (T : TxR K mg C) (TS : TxS K mg) (D : Dm K C "statements" "Reader.statements" (rd 15)) (M1 : M0 P w K mg base C 5 "word" (spWd C CF)) (M2 : M0 P w K mg base C 9 "statement" (spSt C CF)) : M0 P w K mg base C 10 "statements" (spSts C CF) := by
  obtain ⟨f, fd, F, hm⟩ := D.ex
  refine ⟨f, fd, ["self", "last"], F.okX scSts (fun vs H Q E h => ?_) (fun cdv A0 outer s H vs Q E hr h => ?_), hm, F.binds (ps := ["self", "last"]) fun _ _ _ _ _ _ us hl => match us, hl with | [_, _], _ => rfl⟩
  · obtain ⟨x, a, op, e, X1, X2, Sx, t, rfl, _⟩ := h
    rfl
  obtain ⟨x, a, op, e, X1, X2, Sx, t, rfl, o, R, he, ha, hdr, hst, htl⟩ := h
  have oln := o.ln
  refine ⟨_, pss_cons (ps_set (i := 2) scSts.nd rfl (Or.inl rfl) (pe_lst pa_nil)) <|
    pss_cons (ps_while (passes_of rfl) (pt_cmpR op_ne (pe_mm0 T.cl M1 hr (by decide) (passes_call (takes_of rfl rfl rfl rfl) fun _ _ _ _ h => h) (pv 0)) (pv 1) (nomark _))
      (pss_one (ps_expr (pe_bm PySem.F.plainAttrs_list PySem.F.slot_list_append PySem.F.type_list_append mt_append (pv 2) (pa_cons (pe_mm0 T.cl M2 hr (by decide) (passes_call (takes_of rfl rfl rfl rfl) fun _ _ _ _ h => h) (pv 0)) pa_nil))))) <|
    pss_cons (ps_fldaug (pv 0) pe_int in_add) <|
    pss_one (ps_ret (pe_callTy call_tuple_of (by rfl) TS.tup (by decide +kernel) (pa_cons (pv 2) pa_nil))), ?_⟩
  refine ⟨Nat.zero_le _, fun l hl => ?_⟩
  have hl0 : x.H0 l = none := R.1.free hl
  have hpl : x.p ≠ l := by
    obtain ⟨dx, l1, l2, l3, h1⟩ := R.obj
    exact ne_of_none h1 hl
  refine ⟨StInv C x op e X1 X2 t l, ⟨Sx.length, upd x.H0 l (.lst []), a, Sx, [], rfl, rfl, same_new hl0 _, upd_same, by rw [upd_ne hpl]; exact o.p0, Nat.zero_le _, ha, hdr, hst, R.add hl _⟩, ?_⟩
  rintro m σ H1 ⟨H0', a', S', Y, rfl, rfl, sH, hY, hp0, hYl, ha', hdr', hst', R1⟩
  have o1 : (x.on H0').Ok := o.on (same_tups sH) hp0
  obtain ⟨dx, l1, l2, l3, h1⟩ := R1.obj
  have fe : ∀ {r c : Nat} {z : Str}, FE CF x E r c z → FE CF (x.on H0') E r c z := fun h => h.on sH
  -- a turn's end: the list grows
  have grow : ∀ (a2 : Nat) (S2 : List W) (v : V) (H2 : Hp), a' < a2 → a2 ≤ x.ws.length → S2.length < S'.length → x.ws.drop a2 = S2 ++ t → Stms (S2.map (·.1)) → Rd C (x.on H0') H2 a2 op e X1 X2 → ∃ l1 xs y, V.ref l = V.ref l1 ∧ [v] = [y] ∧ H2 l1 = some (.lst xs) ∧ xs.length < sizeLine ∧
      ∃ m', m' < S'.length ∧ StInv C x op e X1 X2 t l m' [some (V.ref x.p), some (V.str "end"), some (V.ref l)] (upd H2 l1 (.lst (xs ++ [y]))) := fun a2 S2 v H2 h1 h2 h3 h4 h5 RR => by
    refine ⟨l, Y, v, rfl, rfl, RR.1 _ _ hY, by rw [sizeLine_eq]; omega, S2.length, h3, upd H0' l (.lst (Y ++ [v])), a2, S2, Y ++ [v], rfl, rfl, ?_, upd_same, ?_, ?_, h2, h4, h5, RR.put o1 hY _⟩
    · exact fun b u z => by
        rw [upd_ne (ne_of_none z hl0)]
        exact sH b u z
    · rw [upd_ne hpl]
      exact hp0
    · rw [List.length_append]
      simp only [List.length_cons, List.length_nil]
      omega
  refine ⟨_, rfl, x.p, dx, _, rfl, h1, by kernel_rfl, x.on H0', a', op, e, X1, X2, rfl, o1, R1, ha', fun k hk => ?_, fun hn => ?_⟩
  · refine ⟨_, rfl, rfl, _, rfl, ?_⟩
    rw [dec_str]
    rcases stm_cases hst' with rfl | ⟨k1, k2, S2, rfl, hp, hlf, hs2⟩ | ⟨k1, k2, k3, S2, rfl, e1, e2, hlf, hs2⟩
    · rw [List.nil_append] at hdr'
      rcases htl with ⟨k', r, rfl, hke, fin⟩ | ⟨rfl, _⟩ | ⟨q, p, r, rfl, hfe⟩
      · have g := drop_get hdr'
        rw [show x.ws[a']? = some k from hk] at g
        obtain rfl := Option.some.inj g.1
        rw [hke, decide_eq_true (by decide +kernel : mk tEnd = Str.ofString "end")]
        refine iteF ?_
        obtain ⟨dx3, fs3, j1, j2, j3, j4⟩ := R1.at_ o1 (k := a' + 1) (e' := e) (by omega)
        have ec : ((a' : Nat) : Int) + 1 = ((a' + 1 : Nat) : Int) := by omega
        refine ⟨_, rfl, x.p, C, dx3, fs3, _, rfl, j1, T.cl, T.f5, j2, _, _, rfl, rfl, dx3, fs3, j1, j3, ?_⟩
        rw [ec]
        have hlY := j4.1 _ _ hY
        refine ⟨_, rfl, l, Y, rfl, .inl ⟨SqL.of hlY, fun tp htp => ?_⟩⟩
        have ln : x.ws.length - r.length = a' + 1 := by
          have := congrArg List.length hdr'
          rw [List.length_drop, List.length_cons] at this
          omega
        refine fin _ _ ?_
        rw [ln]
        exact (j4.new htp _).back sH
      · have := drop_none hdr' ha'
        have := (List.getElem?_eq_some_iff.mp (show x.ws[a']? = some k from hk)).1
        omega
      · have g := drop_get hdr'
        rw [show x.ws[a']? = some k from hk] at g
        have g2 := drop_get g.2
        obtain rfl := Option.some.inj g.1
        rw [decide_eq_false (by decide +kernel : ¬ mk tDo = Str.ofString "end")]
        refine iteT ⟨fun _ _ => False, fun _ _ z => z.elim, ?_⟩
        refine ⟨_, rfl, .inl ⟨rfl, _, SqL.of (R1.1 _ _ hY)⟩, _, rfl, x.p, dx, _, rfl, h1, by kernel_rfl, x.on H0', a', op, e, X1, X2, rfl, o1, R1, he, .inl ⟨(tDo, q), (tRb, p), hk, g2.1, .inl rfl, rb_not.1, fun z => ?_, fun _ => fe hfe⟩⟩
        rw [rb_not.2] at z
        cases z
    · have g := drop_get (r := k2 :: S2 ++ t) hdr'
      have g2 := drop_get (r := S2 ++ t) g.2
      rw [show x.ws[a']? = some k from hk] at g
      obtain rfl := Option.some.inj g.1
      have a2 : a' + 2 ≤ x.ws.length := by
        have := (List.getElem?_eq_some_iff.mp g2.1).1
        omega
      rw [decide_eq_false (plain_not_end hp)]
      refine iteT ⟨_, fun σ' H' z => z, ?_⟩
      refine ⟨_, rfl, .inl ⟨rfl, _, SqL.of (R1.1 _ _ hY)⟩, _, rfl, x.p, dx, _, rfl, h1, by kernel_rfl, x.on H0', a', op, e, X1, X2, rfl, o1, R1, he, .inl ⟨k, k2, hk, g2.1, hp, (leaf_ok hlf).1, fun _ v H2 RR => ?_, fun z => ?_⟩⟩
      · exact grow (a' + 2) S2 v H2 (by omega) a2 (by simp; omega) g2.2 hs2 RR
      · rw [(leaf_ok hlf).2] at z
        cases z
    · have g := drop_get (r := k2 :: k3 :: S2 ++ t) hdr'
      have g2 := drop_get (r := k3 :: S2 ++ t) g.2
      have g3 := drop_get (r := S2 ++ t) g2.2
      rw [show x.ws[a']? = some k from hk] at g
      obtain rfl := Option.some.inj g.1
      have a2 : a' + 3 ≤ x.ws.length := by
        have := (List.getElem?_eq_some_iff.mp g3.1).1
        omega
      rw [e1, decide_eq_false (by decide +kernel : ¬ mk tX = Str.ofString "end")]
      refine iteT ⟨_, fun σ' H' z => z, ?_⟩
      refine ⟨_, rfl, .inl ⟨rfl, _, SqL.of (R1.1 _ _ hY)⟩, _, rfl, x.p, dx, _, rfl, h1, by kernel_rfl, x.on H0', a', op, e, X1, X2, rfl, o1, R1, he, .inr ⟨k, k2, k3, hk, g2.1, g3.1, e1, e2, (leaf_ok hlf).1, (leaf_ok hlf).2, fun v H2 RR => ?_⟩⟩
      exact grow (a' + 3) S2 v H2 (by omega) a2 (by simp; omega) g3.2 hs2 RR
  · -- no word is left
    have hd0 : x.ws.drop a' = [] := List.drop_eq_nil_of_le (Nat.le_of_eq (show x.ws.length = a' from hn.symm))
    rw [hd0] at hdr'
    have hS0 : S' = [] ∧ t = [] := by
      have := congrArg List.length hdr'
      rw [List.length_append, List.length_nil] at this
      exact ⟨List.eq_nil_of_length_eq_zero (by omega), List.eq_nil_of_length_eq_zero (by omega)⟩
    rcases htl with ⟨k', r, h, _⟩ | ⟨_, hs⟩ | ⟨q, p, r, h, _⟩
    · rw [hS0.2] at h; cases h
    · exact fe hs
    · rw [hS0.2] at h; cases h
end
end My
namespace My
open PySem L2 SS
abbrev tMethod : List Nat := [109, 101, 116, 104, 111, 100]
abbrev tColon : List Nat := [58]
abbrev tKind : List Nat := [107, 105, 110, 100]
abbrev tUnder : List Nat := [117, 110, 100, 101, 114]
section
variable {P : Program} {w : World} {K : PySem.W.Frag} {mg : Str → Option Value} {base : Heap} {S CF fI fS C fF fK : Addr}
/-- the methods' part of the one tree: end alone, or one method; R0: what is asked where it is right -/
def MsOk (CF : Addr) (x : RX) (E : XK) (R0 : Prop) (M : List W) : Prop :=
  (∃ k, M = [k] ∧ k.1 = tEnd ∧ R0) ∨ (∃ kM kN kC Sx t, M = kM :: kN :: kC :: (Sx ++ t) ∧ kM.1 = tMethod ∧ isFree kN.1 = true ∧ kC.1 = tColon ∧ Stms (Sx.map (·.1)) ∧
    ((∃ k1 k2, t = [k1, k2] ∧ k1.1 = tEnd ∧ k2.1 = tEnd ∧ R0) ∨ (t = [] ∧ SE_ CF x E) ∨ (∃ q p r, t = (tDo, q) :: (tRb, p) :: r ∧ FE CF x E p.1 p.2 "word")))
theorem SE_.on {x : RX} {E : XK} (h : SE_ CF x E) {H0 : Hp} (s : Same x.H0 H0) : SE_ CF (x.on H0) E := fun d H' s' hx => h d H' (s.trans s') hx
theorem MsOk.on {x : RX} {E : XK} {R0 R1 : Prop} {M : List W} (h : MsOk CF x E R0 M) {H0 : Hp} (s : Same x.H0 H0) (r : R0 → R1) : MsOk CF (x.on H0) E R1 M := by
  rcases h with ⟨k, h1, h2, h3⟩ | ⟨kM, kN, kC, Sx, t, h1, h2, h3, h4, h5, h6⟩
  · exact .inl ⟨k, h1, h2, r h3⟩
  · refine .inr ⟨kM, kN, kC, Sx, t, h1, h2, h3, h4, h5, ?_⟩
    rcases h6 with ⟨k1, k2, g1, g2, g3, g4⟩ | ⟨g1, g2⟩ | ⟨q, p, rr, g1, g2⟩
    · exact .inl ⟨k1, k2, g1, g2, g3, r g4⟩
    · exact .inr (.inl ⟨g1, g2.on s⟩)
    · exact .inr (.inr ⟨q, p, rr, g1, g2.on s⟩)
/-! free_words, where there are none -/
def spFw (C : Addr) : Sp := fun vs H Q _ => ∃ (x : RX) (a op e : Nat) (X1 X2 : List V) (z : Str) (k : W), vs = [.ref x.p, .str z] ∧ x.Ok ∧ Rd C x H a op e X1 X2 ∧ x.ws[a]? = some k ∧ mk k.1 = z ∧ ∀ v H', Rd C x H' (a + 1) op e X1 X2 → Q v H'
theorem scFw : FnScope ["self", "last", "words"] ["self", "last"] (defScope (rd 14)) := ⟨rfl, rfl, rfl, by decide +kernel, rfl, by decide +kernel, by decide +kernel⟩
theorem m_fw (T : TxR K mg C) (TS : TxS K mg) (D : Dm K C "free_words" "Reader.free_words" (rd 14)) (M1 : M0 P w K mg base C 5 "word" (spWd C CF)) : M0 P w K mg base C 6 "free_words" (spFw C) := by
  obtain ⟨f, fd, F, hm⟩ := D.ex
  refine ⟨f, fd, ["self", "last"], F.okX scFw (fun vs H Q E h => ?_) (fun cdv A0 outer s H vs Q E hr h => ?_), hm, F.binds (ps := ["self", "last"]) fun _ _ _ _ _ _ us hl => match us, hl with | [_, _], _ => rfl⟩
  · obtain ⟨x, a, op, e, X1, X2, z, k, rfl, _⟩ := h
    rfl
  obtain ⟨x, a, op, e, X1, X2, z, k, rfl, o, R, hk, hz, q⟩ := h
  have ha : a < x.ws.length := (List.getElem?_eq_some_iff.mp hk).1
  refine ⟨_, pss_cons (ps_set (i := 2) scFw.nd rfl (Or.inl rfl) (pe_lst pa_nil)) <|
    pss_cons (ps_while (passes_of rfl) (pt_cmpR op_ne (pe_mm0 T.cl M1 hr (by decide) (passes_call (takes_of rfl rfl rfl rfl) fun _ _ _ _ h => h) (pv 0)) (pv 1) (nomark _)) pss_never) <|
    pss_cons (ps_fldaug (pv 0) pe_int in_add) <|
    pss_one (ps_ret (pe_callTy call_tuple_of (by rfl) TS.tup (by decide +kernel) (pa_cons (pv 2) pa_nil))), ?_⟩
  refine ⟨Nat.zero_le _, fun l hl => ?_⟩
  have R1 := R.new hl (.lst [])
  refine ⟨fun m σ H1 => σ = [some (.ref x.p), some (.str z), some (.ref l)] ∧ H1 = upd H l (.lst []), ⟨0, rfl, rfl⟩, ?_⟩
  rintro m σ H1 ⟨rfl, rfl⟩
  obtain ⟨dx, l1, l2, l3, h1⟩ := R1.obj
  refine ⟨_, rfl, x.p, dx, _, rfl, h1, by kernel_rfl, x, a, op, e, X1, X2, rfl, o, R1, by omega, fun k' hk' => ?_, fun h => by omega⟩
  rw [hk] at hk'
  obtain rfl := Option.some.inj hk'
  refine ⟨_, rfl, rfl, _, rfl, ?_⟩
  rw [dec_str, decide_eq_true hz]
  refine iteF ?_
  obtain ⟨dx3, fs3, j1, j2, j3, j4⟩ := R1.at_ o (k := a + 1) (e' := e) (by omega)
  have ec : ((a : Nat) : Int) + 1 = ((a + 1 : Nat) : Int) := by omega
  refine ⟨_, rfl, x.p, C, dx3, fs3, _, rfl, j1, T.cl, T.f5, j2, _, _, rfl, rfl, dx3, fs3, j1, j3, ?_⟩
  rw [ec]
  have hlp : l ≠ x.p := fun z => by
    obtain ⟨_, _, _, _, hh⟩ := R.obj
    rw [z, hh] at hl; cases hl
  have hL : upd (upd H l (.lst [])) x.p (.ins C dx3 (putF "at" (.int ((a + 1 : Nat) : Int)) fs3)) l = some (.lst []) := by
    rw [upd_ne hlp, upd_same]
  exact ⟨_, rfl, l, [], rfl, .inl ⟨SqL.of hL, fun tp htp => q _ _ (j4.new htp _)⟩⟩
/-! method -/
/-- self.node_starts = [] -/
theorem Rd.ns {x : RX} (o : x.Ok) {H : Hp} {a op e : Nat} {X1 X2 : List V} (h : Rd C x H a op e X1 X2) {m : Addr} (n : H m = none) : ∃ dx fs, upd H m (.lst []) x.p = some (.ins C dx fs) ∧ fs.length < 1000 ∧ Rd C x (upd (upd H m (.lst [])) x.p (.ins C dx (putF "node_starts" (.ref m) fs))) a op 0 X1 X2 := by
  obtain ⟨s, dx, l1, l2, l3, X3, h1, n1, n2, n3, h2, h3, h4, d1, d2, d3, ln⟩ := h
  have up : ∀ {b : Addr} {u : HO}, H b = some u → upd H m (.lst []) b = some u := fun {b u} z => by rw [upd_ne (ne_of_none z n)]; exact z
  have nm : ∀ {b : Addr} {u : HO}, H b = some u → b ≠ m := fun {b u} z => ne_of_none z n
  have np : ∀ {b : Addr} {ys : List V}, H b = some (.lst ys) → b ≠ x.p := fun {b ys} z => ne_of z h1 (by intro q; cases q)
  have hpm := nm h1
  refine ⟨dx, _, up h1, by show 9 < 1000; decide, fun b u z => ?_, dx, l1, l2, m, [], ?_, n1, n2, s.free n, ?_, ?_, ?_, d1, nm h2, nm h3, Nat.zero_le _⟩
  · rw [upd_ne (ne_of_none z o.p0), upd_ne (ne_of_none (s b u z) n)]
    exact s b u z
  · rw [upd_same, rf_pns]
  · rw [upd_ne (np h2)]; exact up h2
  · rw [upd_ne (np h3)]; exact up h3
  · rw [upd_ne hpm.symm, upd_same]
/-- self.method_starts = [] -/
theorem Rd.ms {x : RX} (o : x.Ok) {H : Hp} {a op e : Nat} {X1 X2 : List V} (h : Rd C x H a op e X1 X2) {m : Addr} (n : H m = none) : ∃ dx fs, upd H m (.lst []) x.p = some (.ins C dx fs) ∧ fs.length < 1000 ∧ Rd C x (upd (upd H m (.lst [])) x.p (.ins C dx (putF "method_starts" (.ref m) fs))) a op e X1 [] := by
  obtain ⟨s, dx, l1, l2, l3, X3, h1, n1, n2, n3, h2, h3, h4, d1, d2, d3, ln⟩ := h
  have up : ∀ {b : Addr} {u : HO}, H b = some u → upd H m (.lst []) b = some u := fun {b u} z => by rw [upd_ne (ne_of_none z n)]; exact z
  have nm : ∀ {b : Addr} {u : HO}, H b = some u → b ≠ m := fun {b u} z => ne_of_none z n
  have np : ∀ {b : Addr} {ys : List V}, H b = some (.lst ys) → b ≠ x.p := fun {b ys} z => ne_of z h1 (by intro q; cases q)
  have hpm := nm h1
  refine ⟨dx, _, up h1, by show 9 < 1000; decide, fun b u z => ?_, dx, l1, m, l3, X3, ?_, n1, s.free n, n3, ?_, ?_, ?_, nm h2, d2, (nm h4).symm, ln⟩
  · rw [upd_ne (ne_of_none z o.p0), upd_ne (ne_of_none (s b u z) n)]
    exact s b u z
  · rw [upd_same, rf_pms]
  · rw [upd_ne (np h2)]; exact up h2
  · rw [upd_ne hpm.symm, upd_same]
  · rw [upd_ne (np h4)]; exact up h4
/-- self.method_starts.append(v) -/
theorem Rd.mapp {x : RX} (o : x.Ok) {H : Hp} {a op e : Nat} {X1 X2 : List V} (h : Rd C x H a op e X1 X2) (v : V) : ∃ dx fs l2, H x.p = some (.ins C dx fs) ∧ fs.lookup ("method_starts" : Str) = some (.ref l2) ∧ H l2 = some (.lst X2) ∧ Rd C x (upd H l2 (.lst (X2 ++ [v]))) a op e X1 (X2 ++ [v]) := by
  obtain ⟨s, dx, l1, l2, l3, X3, h1, n1, n2, n3, h2, h3, h4, d1, d2, d3, ln⟩ := h
  refine ⟨dx, _, l2, h1, rf_ms, h3, fun b u z => ?_, dx, l1, l2, l3, X3, ?_, n1, n2, n3, ?_, upd_same, ?_, d1, d2, d3, ln⟩
  · rw [upd_ne (ne_of_none z n2)]
    exact s b u z
  · rw [upd_ne (ne_of h1 h3 (by intro q; cases q))]
    exact h1
  · rw [upd_ne d1]; exact h2
  · rw [upd_ne d3.symm]; exact h4
/-- self.starts.append(v) -/
theorem Rd.sapp {x : RX} (o : x.Ok) {H : Hp} {a op e : Nat} {X1 X2 : List V} (h : Rd C x H a op e X1 X2) (v : V) : ∃ dx fs l1, H x.p = some (.ins C dx fs) ∧ fs.lookup ("starts" : Str) = some (.ref l1) ∧ H l1 = some (.lst X1) ∧ Rd C x (upd H l1 (.lst (X1 ++ [v]))) a op e (X1 ++ [v]) X2 := by
  obtain ⟨s, dx, l1, l2, l3, X3, h1, n1, n2, n3, h2, h3, h4, d1, d2, d3, ln⟩ := h
  refine ⟨dx, _, l1, h1, rf_st, h2, fun b u z => ?_, dx, l1, l2, l3, X3, ?_, n1, n2, n3, upd_same, ?_, ?_, d1, d2, d3, ln⟩
  · rw [upd_ne (ne_of_none z n1)]
    exact s b u z
  · rw [upd_ne (ne_of h1 h2 (by intro q; cases q))]
    exact h1
  · rw [upd_ne d1.symm]; exact h3
  · rw [upd_ne d2.symm]; exact h4
theorem Rd.lists {x : RX} {H : Hp} {a op e : Nat} {X1 X2 : List V} (h : Rd C x H a op e X1 X2) : ∃ dx fs l2 l3 X3, H x.p = some (.ins C dx fs) ∧ fs.lookup ("at" : Str) = some (.int (a : Nat)) ∧ fs.lookup ("method_starts" : Str) = some (.ref l2) ∧ fs.lookup ("node_starts" : Str) = some (.ref l3) ∧ H l2 = some (.lst X2) ∧ H l3 = some (.lst X3) := by
  obtain ⟨s, dx, l1, l2, l3, X3, h1, n1, n2, n3, h2, h3, h4, d1, d2, d3, ln⟩ := h
  exact ⟨dx, _, l2, l3, X3, h1, rf_at, rf_ms, rf_ns, h3, h4⟩
def spMe (C CF : Addr) : Sp := fun vs H Q E => ∃ (x : RX) (a op e : Nat) (X1 X2 : List V) (kM kN kC : W) (Sx t : List W), vs = [.ref x.p] ∧ x.Ok ∧ Rd C x H a op e X1 X2 ∧ X2.length ≤ 1000 ∧ x.ws.drop a = kM :: kN :: kC :: (Sx ++ t) ∧ kM.1 = tMethod ∧ isFree kN.1 = true ∧ kC.1 = tColon ∧ Stms (Sx.map (·.1)) ∧
  ((∃ k r, t = k :: r ∧ k.1 = tEnd ∧ ∀ v H' X2', X2'.length = X2.length + 1 → Rd C x H' (x.ws.length - r.length) op 0 X1 X2' → Q v H') ∨ (t = [] ∧ SE_ CF x E) ∨ (∃ q p r, t = (tDo, q) :: (tRb, p) :: r ∧ FE CF x E p.1 p.2 "word"))
theorem scMe : FnScope ["self", "start", "message", "parameters", "statements"] ["self"] (defScope (rd 13)) := ⟨rfl, rfl, rfl, by decide +kernel, rfl, by decide +kernel, by decide +kernel⟩
theorem m_me (T : TxR K mg C) (TS : TxS K mg) (D : Dm K C "method" "Reader.method" (rd 13)) (gF : mg "is_free" = some (.ref fF)) (M1 : M0 P w K mg base C 6 "skip" (spSkip C CF)) (M2 : M0 P w K mg base C 6 "take" (spTake C CF (Sf fF fK))) (M3 : M0 P w K mg base C 6 "free_words" (spFw C)) (M4 : M0 P w K mg base C 10 "statements" (spSts C CF)) :
    M0 P w K mg base C 11 "method" (spMe C CF) := by
  obtain ⟨f, fd, F, hm⟩ := D.ex
  refine ⟨f, fd, ["self"], F.okX scMe (fun vs H Q E h => ?_) (fun cdv A0 outer s H vs Q E hr h => ?_), hm, F.binds (ps := ["self"]) fun _ _ _ _ _ _ us hl => match us, hl with | [_], _ => rfl⟩
  · obtain ⟨x, a, op, e, X1, X2, kM, kN, kC, Sx, t, rfl, _⟩ := h
    rfl
  obtain ⟨x, a, op, e, X1, X2, kM, kN, kC, Sx, t, rfl, o, R, hX2, hdr, hkM, hkN, hkC, hst, htl⟩ := h
  refine ⟨_, pss_cons (ps_set (i := 1) scMe.nd rfl (Or.inl rfl) (pe_fld (pv 0) rfl)) <|
    pss_cons (ps_fld (pv 0) (pe_lst pa_nil) rfl) <|
    pss_cons (ps_expr (pe_mm T.cl M1 hr (by decide) (passes_call (takes_of rfl rfl rfl rfl) fun _ _ _ _ h => h) (pv 0) (pa_cons pe_str pa_nil))) <|
    pss_cons (ps_set (i := 2) scMe.nd rfl (Or.inl rfl) (pe_mm T.cl M2 hr (by decide) (passes_call (takes_of rfl rfl rfl rfl) fun _ _ _ _ h => h) (pv 0) (pa_cons (pe_glob (v := .ref fF) (by rfl) gF rfl) pa_nil))) <|
    pss_cons (ps_set (i := 3) scMe.nd rfl (Or.inl rfl) (pe_mm T.cl M3 hr (by decide) (passes_call (takes_of rfl rfl rfl rfl) fun _ _ _ _ h => h) (pv 0) (pa_cons pe_str pa_nil))) <|
    pss_cons (ps_set (i := 4) scMe.nd rfl (Or.inl rfl) (pe_mm T.cl M4 hr (by decide) (passes_call (takes_of rfl rfl rfl rfl) fun _ _ _ _ h => h) (pv 0) (pa_cons pe_str pa_nil))) <|
    pss_cons (ps_expr (pe_bm PySem.F.plainAttrs_list PySem.F.slot_list_append PySem.F.type_list_append mt_append (pe_fld (pv 0) rfl) (pa_cons (pe_tup (pa_cons (pv 1) (pa_cons (pe_callTy call_tuple_of (by rfl) TS.tup (by decide +kernel) (pa_cons (pe_fld (pv 0) rfl) pa_nil)) pa_nil))) pa_nil))) <|
    pss_one (ps_ret (pe_tup (pa_cons pe_str (pa_cons (pv 2) (pa_cons (pv 3) (pa_cons (pv 4) pa_nil)))))), ?_⟩
  have g1 := drop_get hdr
  have g2 := drop_get g1.2
  have g3 := drop_get g2.2
  have a3 : a + 3 ≤ x.ws.length := by
    have := (List.getElem?_eq_some_iff.mp g3.1).1
    omega
  obtain ⟨dx, fs, l2, l3, X3, h1, b1, b2, b3, b4, b5⟩ := R.lists
  refine ⟨_, rfl, x.p, C, dx, fs, _, rfl, h1, T.cl, T.f5, b1, Nat.zero_le _, fun m hm0 => ?_⟩
  obtain ⟨dx1, fs1, c1, c2, c3⟩ := R.ns o hm0
  refine ⟨_, rfl, x.p, C, dx1, fs1, rfl, c1, T.cl, T.f9, c2, ?_⟩
  generalize upd (upd H m (.lst [])) x.p (.ins C dx1 (putF "node_starts" (.ref m) fs1)) = H1 at c3 ⊢
  obtain ⟨dx2, i1, i2, i3, i4⟩ := c3.obj
  refine ⟨_, rfl, x.p, dx2, _, rfl, i4, by kernel_rfl, x, a, op, 0, X1, X2, _, rfl, o, c3, by omega, fun k hk _ H2 R2 => ?_, fun k hk hn => ?_, fun h => by omega⟩
  rotate_left
  · rw [g1.1] at hk
    obtain rfl := Option.some.inj hk
    rw [hkM] at hn
    exact absurd (by decide +kernel) hn
  obtain ⟨dx3, u1, u2, u3, u4⟩ := R2.obj
  refine ⟨_, rfl, x.p, dx3, _, rfl, u4, by kernel_rfl, x, a + 1, op, 0, X1, X2, fF, isFree, rfl, if_pos rfl, o, R2, by omega, fun k hk _ H3 R3 => ?_, fun k hk hn => ?_, fun h => by omega⟩
  rotate_left
  · rw [g2.1] at hk
    obtain rfl := Option.some.inj hk
    rw [hkN] at hn
    cases hn
  obtain ⟨dx4, w1, w2, w3, w4⟩ := R3.obj
  refine ⟨_, rfl, x.p, dx4, _, rfl, w4, by kernel_rfl, x, a + 2, op, 0, X1, X2, _, kC, rfl, o, R3, g3.1, by rw [hkC]; decide +kernel, fun v4 H4 R4 => ?_⟩
  obtain ⟨dx5, y1, y2, y3, y4⟩ := R4.obj
  refine ⟨_, rfl, x.p, dx5, _, rfl, y4, by kernel_rfl, x, a + 3, op, 0, X1, X2, Sx, t, rfl, o, R4, by decide, a3, g3.2, hst, ?_⟩
  rcases htl with ⟨k, r, rfl, hke, fin⟩ | ⟨rfl, hs⟩ | ⟨q, p, r, rfl, hfe⟩
  · refine .inl ⟨k, r, rfl, hke, fun v5 H5 R5 => ?_⟩
    obtain ⟨dx6, fs6, q2, q3, Z3, z1, z2, z3, z4, z5, z6⟩ := R5.lists
    refine ⟨_, rfl, x.p, C, dx6, fs6, _, rfl, z1, T.cl, T.f8, z3, .inl ⟨rfl, _, SqL.of z5⟩, ?_⟩
    refine ⟨_, rfl, _, rfl, x.p, C, dx6, fs6, _, rfl, z1, T.cl, T.f9, z4, q3, _, rfl, .inl ⟨SqL.of z6, fun t1 ht1 => ?_⟩⟩
    refine ⟨by show 2 ≤ sizeLine; decide, fun t2 ht2 => ?_⟩
    have R6 := (R5.new ht1 (.tup Z3)).new ht2 (.tup [.int (a : Nat), .ref t1])
    obtain ⟨dx7, fs7, q4, e1, e2, e3, e4⟩ := R6.mapp o (.ref t2)
    have eq : q4 = q2 := by
      have e5 : upd (upd H5 t1 (.tup Z3)) t2 (.tup [.int (a : Nat), .ref t1]) x.p = some (.ins C dx6 fs6) := by
        rw [upd_ne (ne_of_none (show upd H5 t1 (.tup Z3) x.p = some (.ins C dx6 fs6) by rw [upd_ne (ne_of_none z1 ht1)]; exact z1) ht2), upd_ne (ne_of_none z1 ht1)]
        exact z1
      rw [e5] at e1
      have e6 := Option.some.inj e1
      injection e6 with _ _ e7
      subst e7
      rw [z3] at e2
      have e8 := Option.some.inj e2
      injection e8 with e9
      exact e9.symm
    subst eq
    refine ⟨q4, X2, .ref t2, rfl, rfl, e3, by rw [sizeLine_eq]; omega, ?_⟩
    exact ⟨_, rfl, _, rfl, _, rfl, by show 4 ≤ sizeLine; decide, fun p hp => fin _ _ _ (by rw [List.length_append]; rfl) (e4.new hp _)⟩
  · exact .inr (.inl ⟨rfl, hs⟩)
  · exact .inr (.inr ⟨q, p, r, rfl, hfe⟩)
/-! methods -/
def spMs (C CF : Addr) : Sp := fun vs H Q E => ∃ (x : RX) (a op e : Nat) (X1 X2 : List V) (M : List W), vs = [.ref x.p] ∧ x.Ok ∧ Rd C x H a op e X1 X2 ∧ e ≤ 5 ∧ X2.length ≤ 1000 ∧ x.ws.drop a = M ∧
  MsOk CF x E (∀ v H' X2', X2'.length ≤ X2.length + 1 → Rd C x H' x.ws.length op e X1 X2' → Q v H') M
theorem scMs : FnScope ["self", "methods"] ["self"] (defScope (rd 12)) := ⟨rfl, rfl, rfl, by decide +kernel, rfl, by decide +kernel, by decide +kernel⟩
/-- between two turns: ahead of the one method (m = 1), or at end -/
def MsInv (C CF : Addr) (x : RX) (E : XK) (R0 : List V → Prop) (op e : Nat) (X1 X2 : List V) (l : Addr) (m : Nat) (σ : L2.St) (H1 : Hp) : Prop :=
  ∃ (H0' : Hp) (a' : Nat) (Y X2' M : List V) (Mw : List W), σ = [some (V.ref x.p), some (V.ref l)] ∧ Same x.H0 H0' ∧ H0' l = some (HO.lst Y) ∧ H0' x.p = none ∧ Y.length ≤ 1 ∧ a' ≤ x.ws.length ∧ x.ws.drop a' = Mw ∧ X2'.length ≤ X2.length + 1 ∧ Rd C (x.on H0') H1 a' op e X1 X2' ∧
    ((m = 1 ∧ X2' = X2 ∧ Y = [] ∧ MsOk CF x E (∀ X, X.length ≤ X2.length + 1 → R0 X) Mw) ∨ (m = 0 ∧ ∃ k, Mw = [k] ∧ k.1 = tEnd ∧ R0 X2'))
theorem last_at {x : RX} {a : Nat} {k : W} (h : x.ws.drop a = [k]) : a + 1 = x.ws.length := by
  have := congrArg List.length h
  rw [List.length_drop] at this
  simp only [List.length_cons, List.length_nil] at this
  omega
theorem m_ms (T : TxR K mg C) (TS : TxS K mg) (D : Dm K C "methods" "Reader.methods" (rd 12)) (M1 : M0 P w K mg base C 5 "word" (spWd C CF)) (M2 : M0 P w K mg base C 6 "skip" (spSkip C CF)) (M3 : M0 P w K mg base C 11 "method" (spMe C CF)) : M0 P w K mg base C 12 "methods" (spMs C CF) := by
  obtain ⟨f, fd, F, hm⟩ := D.ex
  refine ⟨f, fd, ["self"], F.okX scMs (fun vs H Q E h => ?_) (fun cdv A0 outer s H vs Q E hr h => ?_), hm, F.binds (ps := ["self"]) fun _ _ _ _ _ _ us hl => match us, hl with | [_], _ => rfl⟩
  · obtain ⟨x, a, op, e, X1, X2, M, rfl, _⟩ := h
    rfl
  obtain ⟨x, a, op, e, X1, X2, M, rfl, o, R, he, hX2, hdr, hok⟩ := h
  refine ⟨_, pss_cons (ps_set (i := 1) scMs.nd rfl (Or.inl rfl) (pe_lst pa_nil)) <|
    pss_cons (ps_while (passes_of rfl) (pt_cmpR op_eq (pe_mm0 T.cl M1 hr (by decide) (passes_call (takes_of rfl rfl rfl rfl) fun _ _ _ _ h => h) (pv 0)) pe_str (nomark _))
      (pss_one (ps_expr (pe_bm PySem.F.plainAttrs_list PySem.F.slot_list_append PySem.F.type_list_append mt_append (pv 1) (pa_cons (pe_mm0 T.cl M3 hr (by decide) (passes_call (takes_of rfl rfl rfl rfl) fun _ _ _ _ h => h) (pv 0)) pa_nil))))) <|
    pss_cons (ps_expr (pe_mm T.cl M2 hr (by decide) (passes_call (takes_of rfl rfl rfl rfl) fun _ _ _ _ h => h) (pv 0) (pa_cons pe_str pa_nil))) <|
    pss_one (ps_ret (pe_callTy call_tuple_of (by rfl) TS.tup (by decide +kernel) (pa_cons (pv 1) pa_nil))), ?_⟩
  refine ⟨Nat.zero_le _, fun l hl => ?_⟩
  have hl0 : x.H0 l = none := R.1.free hl
  have hpl : x.p ≠ l := by
    obtain ⟨dx, l1, l2, l3, h1⟩ := R.obj
    exact ne_of_none h1 hl
  have haM : a ≤ x.ws.length := by
    rcases Nat.lt_or_ge x.ws.length a with h | h
    · rw [List.drop_eq_nil_of_le (by omega)] at hdr
      rcases hok with ⟨k, h1, _⟩ | ⟨kM, kN, kC, Sx, t, h1, _⟩
      · rw [h1] at hdr; cases hdr
      · rw [h1] at hdr; cases hdr
    · exact h
  refine ⟨MsInv C CF x E (fun X2' => ∀ v H', Rd C x H' x.ws.length op e X1 X2' → Q v H') op e X1 X2 l, ⟨1, upd x.H0 l (.lst []), a, [], X2, [], M, rfl, same_new hl0 _, upd_same, by rw [upd_ne hpl]; exact o.p0, by simp, haM, hdr, by omega, R.add hl _,
    .inl ⟨rfl, rfl, rfl, hok.on (x := x) (H0 := x.H0) (Same.refl _) fun g X hX v H' RR => g v H' X hX RR⟩⟩, ?_⟩
  rintro m σ H1 ⟨H0', a', Y, X2', _, Mw, rfl, sH, hY, hp0, hYl, ha', hdr', hXl, R1, hcase⟩
  have o1 : (x.on H0').Ok := o.on (same_tups sH) hp0
  obtain ⟨dx, l1, l2, l3, h1⟩ := R1.obj
  -- at the one end: skip it, hand back
  have fin : ∀ k : W, Mw = [k] → k.1 = tEnd → (∀ v H', Rd C x H' x.ws.length op e X1 X2' → Q v H') → ∀ (QS : L2.St → Hp → Prop), (∀ (H2 : Hp), Rd C (x.on H0') H2 (a' + 1) op e X1 X2' → QS [some (V.ref x.p), some (V.ref l)] H2) → True := fun _ _ _ _ _ _ => trivial
  refine ⟨_, rfl, x.p, dx, _, rfl, h1, by kernel_rfl, x.on H0', a', op, e, X1, X2', rfl, o1, R1, ha', fun k hk => ?_, fun hn => ?_⟩
  · refine ⟨rfl, _, rfl, ?_⟩
    rw [dec_str]
    have theEnd : ∀ (kE : W), Mw = [kE] → kE.1 = tEnd → (∀ v H', Rd C x H' x.ws.length op e X1 X2' → Q v H') → k = kE ∧ ∃ dx fs, H1 x.p = some (.ins C dx fs) ∧ fs.lookup ("skip" : Str) = none ∧
        spSkip C CF [V.ref x.p, .str "end"] H1 (fun _ H2 => ∃ v : V, some (some (V.ref l)) = some (some v) ∧ ∃ p' ys, [v] = [V.ref p'] ∧ ((SqL K H2 p' ys ∧ ∀ l', H2 l' = none → Q (.ref l') (upd H2 l' (.tup ys))) ∨ (SqT K H2 p' ys ∧ Q (.ref p') H2))) E := fun kE hM hkE q => by
      rw [hM] at hdr'
      have g := drop_get hdr'
      rw [show x.ws[a']? = some k from hk] at g
      obtain rfl := Option.some.inj g.1
      have hln := last_at hdr'
      refine ⟨rfl, dx, _, h1, by kernel_rfl, x.on H0', a', op, e, X1, X2', _, rfl, o1, R1, ha', fun k' hk' _ H2 R2 => ?_, fun k' hk' hn => ?_, fun h => ?_⟩
      · have R2' := R2.slack (e' := e) (by omega)
        refine ⟨_, rfl, l, Y, rfl, .inl ⟨SqL.of (R2.1 _ _ hY), fun tp htp => q _ _ ?_⟩⟩
        have R3 := (R2'.new htp (.tup Y)).back sH
        rw [hln] at R3
        exact R3
      · have hk2 : some k = some k' := (show x.ws[a']? = some k from hk).symm.trans hk'
        obtain rfl := Option.some.inj hk2
        rw [hkE] at hn
        exact absurd (by decide +kernel) hn
      · have := (List.getElem?_eq_some_iff.mp (show x.ws[a']? = some k from hk)).1
        have h' : a' = x.ws.length := h
        omega
    rcases hcase with ⟨rfl, rfl, rfl, hok'⟩ | ⟨rfl, kE, hM, hkE, q⟩
    · rcases hok' with ⟨kE, hM, hkE, q⟩ | ⟨kM, kN, kC, Sx, t, hM, hkM, hkN, hkC, hst, htl⟩
      · obtain ⟨rfl, dx', fs', e2, e3, e4⟩ := theEnd kE hM hkE (q X2' (by omega))
        rw [hkE, decide_eq_false (by decide +kernel : ¬ mk tEnd = Str.ofString "method")]
        exact iteF ⟨_, rfl, x.p, dx', fs', rfl, e2, e3, e4⟩
      · rw [hM] at hdr'
        have g := drop_get hdr'
        rw [show x.ws[a']? = some k from hk] at g
        obtain rfl := Option.some.inj g.1
        rw [hkM, decide_eq_true (by decide +kernel : mk tMethod = Str.ofString "method")]
        refine iteT ⟨fun σ' H' => ∃ m', m' < 1 ∧ MsInv C CF x E (fun X2' => ∀ v H', Rd C x H' x.ws.length op e X1 X2' → Q v H') op e X1 X2' l m' σ' H', fun σ' H' z => z, ?_⟩
        refine ⟨_, rfl, .inl ⟨rfl, _, SqL.of (R1.1 _ _ hY)⟩, _, rfl, x.p, dx, _, rfl, h1, by kernel_rfl, x.on H0', a', op, e, X1, X2', k, kN, kC, Sx, t, rfl, o1, R1, hX2, hdr', hkM, hkN, hkC, hst, ?_⟩
        rcases htl with ⟨k1, k2, rfl, hk1, hk2, q⟩ | ⟨rfl, hs⟩ | ⟨q, p, r, rfl, hfe⟩
        · refine .inl ⟨k1, [k2], rfl, hk1, fun v H2 Xn hXn R2 => ?_⟩
          have hlt : (x.on H0').ws.length - [k2].length = x.ws.length - 1 := rfl
          rw [hlt] at R2
          have hdl : x.ws.drop (x.ws.length - 1) = [k2] := by
            have e1 : x.ws = x.ws.take a' ++ (k :: kN :: kC :: (Sx ++ [k1])) ++ [k2] := by
              have := List.take_append_drop a' x.ws
              rw [hdr'] at this
              rw [List.append_assoc]
              simpa using this.symm
            rw [e1]
            rw [List.drop_append_of_le_length (by simp)]
            simp
          have hpos : 1 ≤ x.ws.length := by
            have := congrArg List.length hdr'
            rw [List.length_drop] at this
            simp at this
            omega
          refine ⟨l, [], v, rfl, rfl, R2.1 _ _ hY, by decide, 0, by decide, upd H0' l (.lst ([] ++ [v])), x.ws.length - 1, [] ++ [v], Xn, [], [k2], rfl, ?_, upd_same, ?_, by simp, by omega, hdl, by omega, ((R2.slack (e' := e) (by omega)).put o1 hY _), .inr ⟨rfl, k2, rfl, hk2, q Xn (by omega)⟩⟩
          · exact fun b u z => by
              rw [upd_ne (ne_of_none z hl0)]
              exact sH b u z
          · rw [upd_ne hpl]
            exact hp0
        · exact .inr (.inl ⟨rfl, hs.on sH⟩)
        · exact .inr (.inr ⟨q, p, r, rfl, hfe.on sH⟩)
    · obtain ⟨rfl, dx', fs', e2, e3, e4⟩ := theEnd kE hM hkE q
      rw [hkE, decide_eq_false (by decide +kernel : ¬ mk tEnd = Str.ofString "method")]
      exact iteF ⟨_, rfl, x.p, dx', fs', rfl, e2, e3, e4⟩
  · -- there is a word
    exfalso
    have hd0 : x.ws.drop a' = [] := List.drop_eq_nil_of_le (Nat.le_of_eq (show x.ws.length = a' from hn.symm))
    rw [hd0] at hdr'
    rcases hcase with ⟨_, _, _, hok'⟩ | ⟨_, kE, hM, _⟩
    · rcases hok' with ⟨k, h1, _⟩ | ⟨kM, kN, kC, Sx, t, h1, _⟩
      · rw [h1] at hdr'; cases hdr'
      · rw [h1] at hdr'; cases hdr'
    · rw [hM] at hdr'; cases hdr'
end
end My
namespace My
open PySem L2 SS
section
variable {P : Program} {w : World} {K : PySem.W.Frag} {mg : Str → Option Value} {base : Heap} {S CF fI fS C fF fK : Addr}
/-- the head of the one tree -/
def HdOk (k1 k2 k3 k4 : W) : Prop := k1.1 = tKind ∧ isKindName k2.1 = true ∧ k3.1 = tUnder ∧ isKindName k4.1 = true
theorem MsOk.imp {x : RX} {E : XK} {R0 R1 : Prop} {M : List W} (h : MsOk CF x E R0 M) (r : R0 → R1) : MsOk CF x E R1 M := h.on (x := x) (H0 := x.H0) (Same.refl _) r
theorem MsOk.first {x : RX} {E : XK} {R0 : Prop} {M : List W} (h : MsOk CF x E R0 M) : ∃ k r, M = k :: r ∧ mk k.1 ≠ "field" := by
  rcases h with ⟨k, h1, h2, _⟩ | ⟨kM, kN, kC, Sx, t, h1, h2, _⟩
  · exact ⟨k, [], h1, by rw [h2]; decide +kernel⟩
  · exact ⟨kM, _, h1, by rw [h2]; decide +kernel⟩
def spKd (C CF : Addr) : Sp := fun vs H Q E => ∃ (x : RX) (a op e : Nat) (X1 X2 : List V) (k1 k2 k3 k4 : W) (M : List W), vs = [.ref x.p] ∧ x.Ok ∧ Rd C x H a op e X1 X2 ∧ e ≤ 5 ∧ X2.length ≤ 1000 ∧ x.ws.drop a = k1 :: k2 :: k3 :: k4 :: M ∧ HdOk k1 k2 k3 k4 ∧
  MsOk CF x E (∀ v H' X2', X2'.length ≤ X2.length + 1 → Rd C x H' x.ws.length op e X1 X2' → Q v H') M
theorem scKd : FnScope ["self", "name", "parent", "fields"] ["self"] (defScope (rd 10)) := ⟨rfl, rfl, rfl, by decide +kernel, rfl, by decide +kernel, by decide +kernel⟩
theorem m_kd (T : TxR K mg C) (TS : TxS K mg) (D : Dm K C "kind" "Reader.kind" (rd 10)) (gK : mg "is_kind_name" = some (.ref fK)) (hne : fK ≠ fF) (M1 : M0 P w K mg base C 5 "word" (spWd C CF)) (M2 : M0 P w K mg base C 6 "skip" (spSkip C CF)) (M3 : M0 P w K mg base C 6 "take" (spTake C CF (Sf fF fK))) (M4 : M0 P w K mg base C 12 "methods" (spMs C CF)) :
    M0 P w K mg base C 13 "kind" (spKd C CF) := by
  obtain ⟨f, fd, F, hm⟩ := D.ex
  refine ⟨f, fd, ["self"], F.okX scKd (fun vs H Q E h => ?_) (fun cdv A0 outer s H vs Q E hr h => ?_), hm, F.binds (ps := ["self"]) fun _ _ _ _ _ _ us hl => match us, hl with | [_], _ => rfl⟩
  · obtain ⟨x, a, op, e, X1, X2, k1, k2, k3, k4, M, rfl, _⟩ := h
    rfl
  obtain ⟨x, a, op, e, X1, X2, k1, k2, k3, k4, M, rfl, o, R, he, hX2, hdr, ⟨hk1, hk2, hk3, hk4⟩, hok⟩ := h
  have hSf : Sf fF fK fK = some (spB isKindName) := by
    unfold Sf
    rw [if_neg hne, if_pos rfl]
  refine ⟨_, pss_cons (ps_expr (pe_mm T.cl M2 hr (by decide) (passes_call (takes_of rfl rfl rfl rfl) fun _ _ _ _ h => h) (pv 0) (pa_cons pe_str pa_nil))) <|
    pss_cons (ps_set (i := 1) scKd.nd rfl (Or.inl rfl) (pe_mm T.cl M3 hr (by decide) (passes_call (takes_of rfl rfl rfl rfl) fun _ _ _ _ h => h) (pv 0) (pa_cons (pe_glob (v := .ref fK) (by rfl) gK rfl) pa_nil))) <|
    pss_cons (ps_expr (pe_mm T.cl M2 hr (by decide) (passes_call (takes_of rfl rfl rfl rfl) fun _ _ _ _ h => h) (pv 0) (pa_cons pe_str pa_nil))) <|
    pss_cons (ps_set (i := 2) scKd.nd rfl (Or.inl rfl) (pe_mm T.cl M3 hr (by decide) (passes_call (takes_of rfl rfl rfl rfl) fun _ _ _ _ h => h) (pv 0) (pa_cons (pe_glob (v := .ref fK) (by rfl) gK rfl) pa_nil))) <|
    pss_cons (ps_set (i := 3) scKd.nd rfl (Or.inl rfl) (pe_lst pa_nil)) <|
    pss_cons (ps_while (passes_of rfl) (pt_cmpR op_eq (pe_mm0 T.cl M1 hr (by decide) (passes_call (takes_of rfl rfl rfl rfl) fun _ _ _ _ h => h) (pv 0)) pe_str (nomark _)) pss_never) <|
    pss_one (ps_ret (pe_tup (pa_cons pe_str (pa_cons (pv 1) (pa_cons (pv 2) (pa_cons (pe_callTy call_tuple_of (by rfl) TS.tup (by decide +kernel) (pa_cons (pv 3) pa_nil)) (pa_cons (pe_mm0 T.cl M4 hr (by decide) (passes_call (takes_of rfl rfl rfl rfl) fun _ _ _ _ h => h) (pv 0)) pa_nil))))))), ?_⟩
  have g1 := drop_get hdr
  have g2 := drop_get g1.2
  have g3 := drop_get g2.2
  have g4 := drop_get g3.2
  have a4 : a + 4 ≤ x.ws.length := by
    have := (List.getElem?_eq_some_iff.mp g4.1).1
    omega
  obtain ⟨dx, i1, i2, i3, i4⟩ := R.obj
  refine ⟨_, rfl, x.p, dx, _, rfl, i4, by kernel_rfl, x, a, op, e, X1, X2, _, rfl, o, R, by omega, fun k hk _ H1 R1 => ?_, fun k hk hn => ?_, fun h => by omega⟩
  rotate_left
  · rw [g1.1] at hk
    obtain rfl := Option.some.inj hk
    rw [hk1] at hn
    exact absurd (by decide +kernel) hn
  have R1 := R1.slack (e' := e) (by omega)
  obtain ⟨dx1, j1, j2, j3, j4⟩ := R1.obj
  refine ⟨_, rfl, x.p, dx1, _, rfl, j4, by kernel_rfl, x, a + 1, op, e, X1, X2, fK, isKindName, rfl, hSf, o, R1, by omega, fun k hk _ H2 R2 => ?_, fun k hk hn => ?_, fun h => by omega⟩
  rotate_left
  · rw [g2.1] at hk
    obtain rfl := Option.some.inj hk
    rw [hk2] at hn
    cases hn
  rw [g2.1] at hk
  obtain rfl := Option.some.inj hk
  have R2 := R2.slack (e' := e) (by omega)
  obtain ⟨dx2, u1, u2, u3, u4⟩ := R2.obj
  refine ⟨_, rfl, x.p, dx2, _, rfl, u4, by kernel_rfl, x, a + 2, op, e, X1, X2, _, rfl, o, R2, by omega, fun k hk _ H3 R3 => ?_, fun k hk hn => ?_, fun h => by omega⟩
  rotate_left
  · rw [g3.1] at hk
    obtain rfl := Option.some.inj hk
    rw [hk3] at hn
    exact absurd (by decide +kernel) hn
  have R3 := R3.slack (e' := e) (by omega)
  obtain ⟨dx3, w1, w2, w3, w4⟩ := R3.obj
  refine ⟨_, rfl, x.p, dx3, _, rfl, w4, by kernel_rfl, x, a + 3, op, e, X1, X2, fK, isKindName, rfl, hSf, o, R3, by omega, fun k hk _ H4 R4 => ?_, fun k hk hn => ?_, fun h => by omega⟩
  rotate_left
  · rw [g4.1] at hk
    obtain rfl := Option.some.inj hk
    rw [hk4] at hn
    cases hn
  rw [g4.1] at hk
  obtain rfl := Option.some.inj hk
  have R4 := R4.slack (e' := e) (by omega)
  refine ⟨Nat.zero_le _, fun l hl => ?_⟩
  have R5 := R4.new hl (.lst [])
  obtain ⟨kf, rf_, hM, hkf⟩ := hok.first
  have g5 := drop_get (g4.2.trans hM)
  refine ⟨fun m σ HH => σ = [some (.ref x.p), some (.str (mk k2.1)), some (.str (mk k4.1)), some (.ref l)] ∧ HH = upd H4 l (.lst []), ⟨0, rfl, rfl⟩, ?_⟩
  rintro m σ HH ⟨rfl, rfl⟩
  obtain ⟨dx5, y1, y2, y3, y4⟩ := R5.obj
  refine ⟨_, rfl, x.p, dx5, _, rfl, y4, by kernel_rfl, x, a + 4, op, e, X1, X2, rfl, o, R5, a4, fun k hk => ?_, fun h => ?_⟩
  · rw [g5.1] at hk
    obtain rfl := Option.some.inj hk
    refine ⟨rfl, _, rfl, ?_⟩
    rw [dec_str, decide_eq_false hkf]
    refine iteF ?_
    refine ⟨_, rfl, _, rfl, _, rfl, l, [], rfl, .inl ⟨SqL.of upd_same, fun t1 ht1 => ?_⟩⟩
    have R6 := R5.new ht1 (.tup [])
    obtain ⟨dx6, z1, z2, z3, z4⟩ := R6.obj
    refine ⟨_, rfl, x.p, dx6, _, rfl, z4, by kernel_rfl, x, a + 4, op, e, X1, X2, M, rfl, o, R6, he, hX2, g4.2, hok.imp fun q v H' X2' hX RR => ?_⟩
    exact ⟨by show 5 ≤ sizeLine; decide, fun p hp => q _ _ X2' hX (RR.new hp _)⟩
  · have := (List.getElem?_eq_some_iff.mp g5.1).1
    omega
/-! tree -/
def spTr (C CF : Addr) : Sp := fun vs H Q E => ∃ (x : RX) (a op e : Nat) (X1 X2 : List V) (k1 k2 k3 k4 : W) (M : List W), vs = [.ref x.p] ∧ x.Ok ∧ Rd C x H a op e X1 X2 ∧ e ≤ 5 ∧ X1.length ≤ 1000 ∧ x.ws.drop a = k1 :: k2 :: k3 :: k4 :: M ∧ HdOk k1 k2 k3 k4 ∧
  MsOk CF x E (∀ v H' X1' X2', X1'.length ≤ X1.length + 1 → Rd C x H' x.ws.length op e X1' X2' → Q v H') M
theorem scTr : FnScope ["self", "start", "tree"] ["self"] (defScope (rd 9)) := ⟨rfl, rfl, rfl, by decide +kernel, rfl, by decide +kernel, by decide +kernel⟩
theorem m_tr (T : TxR K mg C) (TS : TxS K mg) (D : Dm K C "tree" "Reader.tree" (rd 9)) (M1 : M0 P w K mg base C 5 "word" (spWd C CF)) (M2 : M0 P w K mg base C 13 "kind" (spKd C CF)) : M0 P w K mg base C 14 "tree" (spTr C CF) := by
  obtain ⟨f, fd, F, hm⟩ := D.ex
  refine ⟨f, fd, ["self"], F.okX scTr (fun vs H Q E h => ?_) (fun cdv A0 outer s H vs Q E hr h => ?_), hm, F.binds (ps := ["self"]) fun _ _ _ _ _ _ us hl => match us, hl with | [_], _ => rfl⟩
  · obtain ⟨x, a, op, e, X1, X2, k1, k2, k3, k4, M, rfl, _⟩ := h
    rfl
  obtain ⟨x, a, op, e, X1, X2, k1, k2, k3, k4, M, rfl, o, R, he, hX1, hdr, hd, hok⟩ := h
  refine ⟨_, pss_cons (ps_set (i := 1) scTr.nd rfl (Or.inl rfl) (pe_fld (pv 0) rfl)) <|
    pss_cons (ps_fld (pv 0) (pe_lst pa_nil) rfl) <|
    pss_cons (ps_set (i := 2) scTr.nd rfl (Or.inl rfl) (pe_ifExp (pt_cmpR op_eq (pe_mm0 T.cl M1 hr (by decide) (passes_call (takes_of rfl rfl rfl rfl) fun _ _ _ _ h => h) (pv 0)) pe_str (nomark _)) (pe_mm0 T.cl M2 hr (by decide) (passes_call (takes_of rfl rfl rfl rfl) fun _ _ _ _ h => h) (pv 0)) pe_never)) <|
    pss_cons (ps_expr (pe_bm PySem.F.plainAttrs_list PySem.F.slot_list_append PySem.F.type_list_append mt_append (pe_fld (pv 0) rfl) (pa_cons (pe_tup (pa_cons (pv 1) (pa_cons (pe_callTy call_tuple_of (by rfl) TS.tup (by decide +kernel) (pa_cons (pe_fld (pv 0) rfl) pa_nil)) pa_nil))) pa_nil))) <|
    pss_one (ps_ret (pv 2)), ?_⟩
  have g1 := drop_get hdr
  have ha : a < x.ws.length := (List.getElem?_eq_some_iff.mp g1.1).1
  obtain ⟨dx, fs, l2, l3, X3, h1, b1, b2, b3, b4, b5⟩ := R.lists
  refine ⟨_, rfl, x.p, C, dx, fs, _, rfl, h1, T.cl, T.f5, b1, Nat.zero_le _, fun m hm0 => ?_⟩
  obtain ⟨dx1, fs1, c1, c2, c3⟩ := R.ms o hm0
  refine ⟨_, rfl, x.p, C, dx1, fs1, rfl, c1, T.cl, T.f8, c2, ?_⟩
  generalize upd (upd H m (.lst [])) x.p (.ins C dx1 (putF "method_starts" (.ref m) fs1)) = H1 at c3 ⊢
  obtain ⟨dx2, i1, i2, i3, i4⟩ := c3.obj
  refine ⟨_, rfl, x.p, dx2, _, rfl, i4, by kernel_rfl, x, a, op, e, X1, [], rfl, o, c3, by omega, fun k hk => ?_, fun h => by omega⟩
  rw [g1.1] at hk
  obtain rfl := Option.some.inj hk
  refine ⟨rfl, _, rfl, ?_⟩
  rw [dec_str, hd.1, decide_eq_true (by decide +kernel : mk tKind = Str.ofString "kind")]
  refine iteT ?_
  refine ⟨_, rfl, x.p, dx2, _, rfl, i4, by kernel_rfl, x, a, op, e, X1, [], k1, k2, k3, k4, M, rfl, o, c3, he, Nat.zero_le _, hdr, hd, hok.imp fun q v H' X2' hX RR => ?_⟩
  obtain ⟨dx3, fs3, q1, z1, z2, z3, z4⟩ := RR.sapp o (.int 0)
  obtain ⟨dx4, fs4, q2, q3, Z3, y1, y2, y3, y4, y5, y6⟩ := RR.lists
  refine ⟨_, rfl, x.p, C, dx3, fs3, _, rfl, z1, T.cl, T.f7, z2, .inl ⟨rfl, _, SqL.of z3⟩, ?_⟩
  refine ⟨_, rfl, _, rfl, x.p, C, dx4, fs4, _, rfl, y1, T.cl, T.f8, y3, q2, _, rfl, .inl ⟨SqL.of y5, fun t1 ht1 => ?_⟩⟩
  refine ⟨by show 2 ≤ sizeLine; decide, fun t2 ht2 => ?_⟩
  have R6 := (RR.new ht1 (.tup X2')).new ht2 (.tup [.int (a : Nat), .ref t1])
  obtain ⟨dx7, fs7, q4, e1, e2, e3, e4⟩ := R6.sapp o (.ref t2)
  have eq : q4 = q1 := by
    have e5 : upd (upd H' t1 (.tup X2')) t2 (.tup [.int (a : Nat), .ref t1]) x.p = some (.ins C dx3 fs3) := by
      rw [upd_ne (ne_of_none (show upd H' t1 (.tup X2') x.p = some (.ins C dx3 fs3) by rw [upd_ne (ne_of_none z1 ht1)]; exact z1) ht2), upd_ne (ne_of_none z1 ht1)]
      exact z1
    rw [e5] at e1
    have e6 := Option.some.inj e1
    injection e6 with _ _ e7
    subst e7
    rw [z2] at e2
    have e8 := Option.some.inj e2
    injection e8 with e9
    exact e9.symm
  subst eq
  refine ⟨q4, X1, .ref t2, rfl, rfl, e3, by rw [sizeLine_eq]; omega, ?_⟩
  exact ⟨_, rfl, q v _ _ _ (by rw [List.length_append]; exact Nat.le_refl _) e4⟩
/-! page_trees -/
def spPT (C CF : Addr) : Sp := fun vs H Q E => ∃ (x : RX) (k1 k2 k3 k4 : W) (M : List W), vs = [.ref x.p] ∧ x.Ok ∧ Rd C x H 0 0 0 [] [] ∧ x.ws = k1 :: k2 :: k3 :: k4 :: M ∧ HdOk k1 k2 k3 k4 ∧
  MsOk CF x E ((x.why = "sign" → SE_ CF x E) ∧ (x.why ≠ "sign" → ∀ v H' X1 X2, Rd C x H' x.ws.length 0 0 X1 X2 → Q v H')) M
theorem scPT : FnScope ["self", "trees"] ["self"] (defScope (rd 8)) := ⟨rfl, rfl, rfl, by decide +kernel, rfl, by decide +kernel, by decide +kernel⟩
def PtInv (C CF : Addr) (x : RX) (E : XK) (R0 : Prop) (k1 k2 k3 k4 : W) (M : List W) (l : Addr) (m : Nat) (σ : L2.St) (H1 : Hp) : Prop :=
  ∃ (H0' : Hp) (Y X1 X2 : List V) (a : Nat), σ = [some (V.ref x.p), some (V.ref l)] ∧ Same x.H0 H0' ∧ H0' l = some (HO.lst Y) ∧ H0' x.p = none ∧ Y.length ≤ 1 ∧ Rd C (x.on H0') H1 a 0 0 X1 X2 ∧
    ((m = 1 ∧ a = 0 ∧ X1 = [] ∧ Y = [] ∧ MsOk CF x E R0 M) ∨ (m = 0 ∧ a = x.ws.length ∧ R0))
theorem m_pt (T : TxR K mg C) (TS : TxS K mg) (D : Dm K C "page_trees" "Reader.page_trees" (rd 8)) (M1 : M0 P w K mg base C 14 "tree" (spTr C CF)) (M2 : M0 P w K mg base C 4 "refuse_stop" (spRS C CF)) : M0 P w K mg base C 15 "page_trees" (spPT C CF) := by
  obtain ⟨f, fd, F, hm⟩ := D.ex
  refine ⟨f, fd, ["self"], F.okX scPT (fun vs H Q E h => ?_) (fun cdv A0 outer s H vs Q E hr h => ?_), hm, F.binds (ps := ["self"]) fun _ _ _ _ _ _ us hl => match us, hl with | [_], _ => rfl⟩
  · obtain ⟨x, k1, k2, k3, k4, M, rfl, _⟩ := h
    rfl
  obtain ⟨x, k1, k2, k3, k4, M, rfl, o, R, hws, hd, hok⟩ := h
  refine ⟨_, pss_cons (ps_set (i := 1) scPT.nd rfl (Or.inl rfl) (pe_lst pa_nil)) <|
    pss_cons (ps_while (passes_of rfl) (pt_cmpR op_lt (pe_fld (pv 0) rfl) (pe_callB call_len_seq (by rfl) TS.len PySem.boot_len (pa_cons (pe_fld (pv 0) rfl) pa_nil)) (nomark _))
      (pss_one (ps_expr (pe_bm PySem.F.plainAttrs_list PySem.F.slot_list_append PySem.F.type_list_append mt_append (pv 1) (pa_cons (pe_mm0 T.cl M1 hr (by decide) (passes_call (takes_of rfl rfl rfl rfl) fun _ _ _ _ h => h) (pv 0)) pa_nil))))) <|
    pss_cons (ps_if (pt_cmpR op_eq (pe_fld (pv 0) rfl) pe_str (nomark _)) (pss_one (ps_expr (pe_mm0 T.cl M2 hr (by decide) (passes_call (takes_of rfl rfl rfl rfl) fun _ _ _ _ h => h) (pv 0)))) pss_nil) <|
    pss_one (ps_ret (pe_callTy call_tuple_of (by rfl) TS.tup (by decide +kernel) (pa_cons (pv 1) pa_nil))), ?_⟩
  refine ⟨Nat.zero_le _, fun l hl => ?_⟩
  have hl0 : x.H0 l = none := R.1.free hl
  have hpl : x.p ≠ l := by
    obtain ⟨dx, l1, l2, l3, h1⟩ := R.obj
    exact ne_of_none h1 hl
  have hlen : 0 < x.ws.length := by rw [hws]; simp
  have oln := o.len
  refine ⟨PtInv C CF x E _ k1 k2 k3 k4 M l, ⟨1, upd x.H0 l (.lst []), [], [], [], 0, rfl, same_new hl0 _, upd_same, by rw [upd_ne hpl]; exact o.p0, by simp, R.add hl _, .inl ⟨rfl, rfl, rfl, rfl, hok⟩⟩, ?_⟩
  rintro m σ H1 ⟨H0', Y, X1, X2, a, rfl, sH, hY, hp0, hYl, R1, hcase⟩
  have o1 : (x.on H0').Ok := o.on (same_tups sH) hp0
  have R1' := R1
  obtain ⟨s0, dx, l1, l2, l3, X3, h1, _⟩ := R1
  refine ⟨_, rfl, x.p, C, dx, _, _, rfl, h1, T.cl, T.f5, rf_at, _, rfl, x.p, C, dx, _, _, rfl, h1, T.cl, T.f2, rf_words, x.wl, _, rfl, .inr (SqT.of (s0 _ _ o1.hw)), _, _, rfl, rfl, _, rfl, ?_⟩
  have hul : (x.on H0').us.length = x.ws.length := oln
  rw [hul]
  rcases hcase with ⟨rfl, rfl, rfl, rfl, hok'⟩ | ⟨rfl, rfl, q1, q2⟩
  · rw [decide_eq_true (by omega)]
    refine iteT ⟨fun σ' H' => ∃ m', m' < 1 ∧ PtInv C CF x E _ k1 k2 k3 k4 M l m' σ' H', fun σ' H' z => z, ?_⟩
    refine ⟨_, rfl, .inl ⟨rfl, _, SqL.of (R1'.1 _ _ hY)⟩, _, rfl, x.p, dx, _, rfl, h1, by kernel_rfl, x.on H0', 0, 0, 0, [], X2, k1, k2, k3, k4, M, rfl, o1, R1', by decide, Nat.zero_le _, by rw [List.drop_zero]; exact hws, hd, hok'.on sH fun q v H' X1' X2' hX RR => ?_⟩
    refine ⟨l, [], v, rfl, rfl, RR.1 _ _ hY, by decide, 0, by decide, upd H0' l (.lst ([] ++ [v])), [] ++ [v], X1', X2', x.ws.length, rfl, fun b u z => ?_, upd_same, by rw [upd_ne hpl]; exact hp0, by simp, RR.put o1 hY _, .inr ⟨rfl, rfl, q⟩⟩
    rw [upd_ne (ne_of_none z hl0)]
    exact sH b u z
  · rw [decide_eq_false (by omega)]
    refine iteF ?_
    refine ⟨_, rfl, x.p, C, dx, _, _, rfl, h1, T.cl, T.f4, rf_why, rfl, _, rfl, ?_⟩
    rw [dec_str]
    have hw : (x.on H0').why = x.why := rfl
    rw [hw]
    refine ite2 (fun c => ?_) (fun c => ?_)
    · have c1 : x.why = "sign" := of_decide_eq_true c
      exact ⟨_, rfl, x.p, dx, _, rfl, h1, by kernel_rfl, x.on H0', x.ws.length, 0, 0, X1, X2, rfl, o1, R1', (q1 c1).on sH⟩
    · have c1 : x.why ≠ "sign" := by simpa using c
      exact ⟨_, rfl, l, Y, rfl, .inl ⟨SqL.of (R1'.1 _ _ hY), fun tp htp => q2 c1 _ _ _ _ ((R1'.new htp _).back sH)⟩⟩
end
end My
namespace My
open PySem L2 SS
section
variable {P : Program} {w : World} {K : PySem.W.Frag} {mg : Str → Option Value} {base : Heap} {S CF fI fS C CP fF fK : Addr}
/-! Reader.__init__ -/
def spRI (C : Addr) : Sp := fun vs H Q _ => ∃ (x : RX) (dx : Addr), vs = [.ref x.p, .str x.pg, .ref x.wl, .ref x.q, .str x.why] ∧ x.Ok ∧ Same x.H0 H ∧ H x.p = some (.ins C dx []) ∧ ∀ H', Rd C x H' 0 0 0 [] [] → Q .non H'
theorem scRI : FnScope ["self", "page", "words", "stop", "stop_why"] ["self", "page", "words", "stop", "stop_why"] (defScope (rd 0)) := ⟨rfl, rfl, rfl, by decide +kernel, rfl, by decide +kernel, by decide +kernel⟩
theorem m_ri (T : TxR K mg C) {f : Addr} {fd : FuncData} (F : Fun K "__init__" "Reader.__init__" (rd 0) f fd) : FnOk P w K mg base CX0 1 f fd ["self", "page", "words", "stop", "stop_why"] (spRI C) := by
  refine F.ok scRI (fun vs H Q E h => ?_) (fun cdv A0 outer s H vs Q E hr h => ?_)
  · obtain ⟨x, dx, rfl, _⟩ := h
    rfl
  obtain ⟨x, dx, rfl, o, s0, h0, k⟩ := h
  refine ⟨_, pss_cons (ps_fld (pv 0) (pv 1) rfl) <| pss_cons (ps_fld (pv 0) (pv 2) rfl) <| pss_cons (ps_fld (pv 0) (pv 3) rfl) <| pss_cons (ps_fld (pv 0) (pv 4) rfl) <|
    pss_cons (ps_fld (pv 0) pe_int rfl) <| pss_cons (ps_fld (pv 0) pe_int rfl) <| pss_cons (ps_fld (pv 0) (pe_lst pa_nil) rfl) <| pss_cons (ps_fld (pv 0) (pe_lst pa_nil) rfl) <| pss_one (ps_fld (pv 0) (pe_lst pa_nil) rfl), ?_⟩
  -- a store: the instance's fields, all else as it was
  have st : ∀ {H1 : Hp} {fs : List (Str × V)} (f : Str) (v : V), H1 x.p = some (.ins C dx fs) ∧ (∀ b, b ≠ x.p → H1 b = H b) → upd H1 x.p (.ins C dx (putF f v fs)) x.p = some (.ins C dx (putF f v fs)) ∧ ∀ b, b ≠ x.p → upd H1 x.p (.ins C dx (putF f v fs)) b = H b := fun f v h =>
    ⟨upd_same, fun b hb => by rw [upd_ne hb]; exact h.2 b hb⟩
  have j0 : H x.p = some (.ins C dx []) ∧ ∀ b, b ≠ x.p → H b = H b := ⟨h0, fun _ _ => rfl⟩
  refine ⟨_, rfl, _, rfl, x.p, C, dx, _, rfl, j0.1, T.cl, T.f1, by decide, ?_⟩
  have j1 := st "page" (.str x.pg) j0
  generalize upd H x.p (.ins C dx (putF "page" (.str x.pg) [])) = H1 at j1 ⊢
  refine ⟨_, rfl, _, rfl, x.p, C, dx, _, rfl, j1.1, T.cl, T.f2, by show 1 < 1000; decide, ?_⟩
  have j2 := st "words" (.ref x.wl) j1
  generalize upd H1 x.p (.ins C dx (putF "words" (.ref x.wl) (putF "page" (.str x.pg) []))) = H2 at j2 ⊢
  refine ⟨_, rfl, _, rfl, x.p, C, dx, _, rfl, j2.1, T.cl, T.f3, by show 2 < 1000; decide, ?_⟩
  have j3 := st "stop" (.ref x.q) j2
  generalize upd H2 x.p (.ins C dx (putF "stop" (.ref x.q) (putF "words" (.ref x.wl) (putF "page" (.str x.pg) [])))) = H3 at j3 ⊢
  refine ⟨_, rfl, _, rfl, x.p, C, dx, _, rfl, j3.1, T.cl, T.f4, by show 3 < 1000; decide, ?_⟩
  have j4 := st "stop_why" (.str x.why) j3
  generalize upd H3 x.p _ = H4 at j4 ⊢
  refine ⟨_, rfl, x.p, C, dx, _, rfl, j4.1, T.cl, T.f5, by show 4 < 1000; decide, ?_⟩
  have j5 := st "at" (.int 0) j4
  generalize upd H4 x.p _ = H5 at j5 ⊢
  refine ⟨_, rfl, x.p, C, dx, _, rfl, j5.1, T.cl, T.f6, by show 5 < 1000; decide, ?_⟩
  have j6 := st "many_open" (.int 0) j5
  generalize upd H5 x.p _ = H6 at j6 ⊢
  refine ⟨Nat.zero_le _, fun l1 n1 => ?_⟩
  have d1 : l1 ≠ x.p := fun z => by rw [z, j6.1] at n1; cases n1
  have m1 : H l1 = none := by rw [← j6.2 l1 d1]; exact n1
  refine ⟨_, rfl, x.p, C, dx, _, rfl, by rw [upd_ne d1.symm]; exact j6.1, T.cl, T.f7, by show 6 < 1000; decide, ?_⟩
  have j7 : ∀ b, b ≠ x.p → b ≠ l1 → upd (upd H6 l1 (.lst [])) x.p (.ins C dx (putF "starts" (.ref l1) (putF "many_open" (.int 0) (putF "at" (.int 0) (putF "stop_why" (.str x.why) (putF "stop" (.ref x.q) (putF "words" (.ref x.wl) (putF "page" (.str x.pg) [])))))))) b = H b := fun b h1 h2 => by
    rw [upd_ne h1, upd_ne h2]
    exact j6.2 b h1
  have i7 : upd (upd H6 l1 (.lst [])) x.p (.ins C dx (putF "starts" (.ref l1) (putF "many_open" (.int 0) (putF "at" (.int 0) (putF "stop_why" (.str x.why) (putF "stop" (.ref x.q) (putF "words" (.ref x.wl) (putF "page" (.str x.pg) [])))))))) x.p = _ := upd_same
  have k7 : upd (upd H6 l1 (.lst [])) x.p (.ins C dx (putF "starts" (.ref l1) (putF "many_open" (.int 0) (putF "at" (.int 0) (putF "stop_why" (.str x.why) (putF "stop" (.ref x.q) (putF "words" (.ref x.wl) (putF "page" (.str x.pg) [])))))))) l1 = some (.lst []) := by rw [upd_ne d1, upd_same]
  generalize upd (upd H6 l1 (.lst [])) x.p _ = H7 at j7 i7 k7 ⊢
  refine ⟨Nat.zero_le _, fun l2 n2 => ?_⟩
  have d2 : l2 ≠ x.p := fun z => by rw [z, i7] at n2; cases n2
  have d12 : l2 ≠ l1 := fun z => by rw [z, k7] at n2; cases n2
  have m2 : H l2 = none := by rw [← j7 l2 d2 d12]; exact n2
  refine ⟨_, rfl, x.p, C, dx, _, rfl, by rw [upd_ne d2.symm]; exact i7, T.cl, T.f8, by show 7 < 1000; decide, ?_⟩
  have j8 : ∀ (o : HO) b, b ≠ x.p → b ≠ l1 → b ≠ l2 → upd (upd H7 l2 (.lst [])) x.p o b = H b := fun o b h1 h2 h3 => by
    rw [upd_ne h1, upd_ne h3]
    exact j7 b h1 h2
  have k8 : ∀ (o : HO), upd (upd H7 l2 (.lst [])) x.p o l1 = some (.lst []) ∧ upd (upd H7 l2 (.lst [])) x.p o l2 = some (.lst []) := fun o => by
    rw [upd_ne d1, upd_ne d12.symm, upd_ne d2, upd_same]
    exact ⟨k7, rfl⟩
  refine ⟨Nat.zero_le _, fun l3 n3 => ?_⟩
  have d3 : l3 ≠ x.p := fun z => by rw [z, upd_same] at n3; cases n3
  have d13 : l3 ≠ l1 := fun z => by rw [z, (k8 _).1] at n3; cases n3
  have d23 : l3 ≠ l2 := fun z => by rw [z, (k8 _).2] at n3; cases n3
  have m3 : H l3 = none := by rw [← j8 _ l3 d3 d13 d23]; exact n3
  refine ⟨_, rfl, x.p, C, dx, _, rfl, by rw [upd_ne d3.symm, upd_same], T.cl, T.f9, by show 8 < 1000; decide, ?_⟩
  refine k _ ⟨fun b u z => ?_, dx, l1, l2, l3, [], ?_, s0.free m1, s0.free m2, s0.free m3, ?_, ?_, ?_, d12.symm, d13.symm, d23.symm, Nat.zero_le _⟩
  · have zb : b ≠ x.p := ne_of_none z o.p0
    have z1 : b ≠ l1 := ne_of_none (s0 _ _ z) m1
    have z2 : b ≠ l2 := ne_of_none (s0 _ _ z) m2
    have z3 : b ≠ l3 := ne_of_none (s0 _ _ z) m3
    rw [upd_ne zb, upd_ne z3, j8 _ b zb z1 z2]
    exact s0 b u z
  · rw [upd_same]
    have e : ∀ a b c : Addr, putF "node_starts" (V.ref c) (putF "method_starts" (.ref b) (putF "starts" (.ref a) (putF "many_open" (.int 0) (putF "at" (.int 0) (putF "stop_why" (.str x.why) (putF "stop" (.ref x.q) (putF "words" (.ref x.wl) (putF "page" (.str x.pg) [])))))))) = rf x.pg x.wl (.ref x.q) x.why 0 0 a b c := fun a b c => by kernel_rfl
    rw [e]
  · rw [upd_ne d1, upd_ne d13.symm]
    exact (k8 _).1
  · rw [upd_ne d2, upd_ne d23.symm]
    exact (k8 _).2
  · rw [upd_ne d3, upd_same]
/-! end_place -/
abbrev sEP : Stmt := sEnd
def spEP : Sp := fun vs H Q _ => ∃ (z : Str) (rs : List Str), vs = [.str z] ∧ Fits z rs ∧ rs ≠ [] ∧ ∀ (H' : Hp) (p : Addr) (r c : Nat), Same H H' → H p = none → H' p = some (.tup [.int (r : Nat), .int (c : Nat)]) → r ≤ 1000000 → c ≤ 1000000 → Q (.ref p) H'
theorem scEP : FnScope ["text", "rows"] ["text"] (defScope sEP) := ⟨rfl, rfl, rfl, by decide +kernel, rfl, by decide +kernel, by decide +kernel⟩
theorem c_ep (T : TxS K mg) (D : Dn K mg "end_place" sEP) : C0 P w K mg base 1 "end_place" spEP := by
  obtain ⟨f, fd, F, m⟩ := D.ex
  refine ⟨f, fd, ["text"], F.ok scEP (fun vs H Q E h => ?_) (fun cdv A outer s H vs Q E hr h => ?_), m, F.kp, F.binds (ps := ["text"]) fun _ _ _ _ _ _ us hl => match us, hl with | [_], _ => rfl⟩
  · obtain ⟨z, rs, rfl, _⟩ := h
    rfl
  obtain ⟨z, rs, rfl, ⟨hsp, hz, hrl, hrs⟩, hne, k⟩ := h
  refine ⟨_, pss_cons (ps_set (i := 1) scEP.nd rfl (Or.inl rfl) (pe_split (pv 0) pe_str)) <|
    pss_one (ps_ret (pe_tup (pa_cons (pe_callB call_len_seq (by rfl) T.len PySem.boot_len (pa_cons (pv 1) pa_nil)) (pa_cons (pe_op op_add (pe_callB call_len_str (by rfl) T.len PySem.boot_len (pa_cons (pe_ix ix_list (pv 1) (pe_un un_neg pe_int) (fun _ _ => rfl)) pa_nil)) pe_int) pa_nil)))), ?_⟩
  refine ⟨_, rfl, ⟨_, rfl⟩, z, nl, rfl, rfl, by decide +kernel, by rw [sizeLine_eq]; omega, fun R hR => ?_⟩
  rw [hsp]
  have hsplit := List.dropLast_concat_getLast hne
  have hlast : (rs.getLast hne).length ≤ 1000 := hrs _ (List.getLast_mem hne)
  generalize rs.getLast hne = y at hsplit hlast
  have hat : atI (rs.map V.str) (-1) = some (.str y) := by
    rw [← hsplit, List.map_append]
    exact atI_last _ _
  refine ⟨_, rfl, R, _, rfl, .inl (SqL.of upd_same), _, rfl, 1, rfl, R, _, _, _, rfl, rfl, SqL.of upd_same, hat, y, rfl, by rw [sizeLine_eq]; omega, _, _, rfl, rfl, by show 2 ≤ sizeLine; decide, fun p hp => ?_⟩
  have hp0 : H p = none := (same_new hR _).free hp
  have ec : ((y.length : Nat) : Int) + 1 = ((y.length + 1 : Nat) : Int) := by omega
  refine k _ p rs.length (y.length + 1) ((same_new hR _).trans (same_new hp _)) hp0 ?_ (by omega) (by omega)
  rw [upd_same, List.length_map]
  rfl
/-! reader_of -/
abbrev sRO : Stmt := top 36
structure ScOk (sc : List W × Option (Nat × Nat)) : Prop where
  ww : ∀ k ∈ sc.1, k.1.length ≤ 1000 ∧ k.2.1 ≤ 1000000 ∧ k.2.2 ≤ 1000000
  st : ∀ p, sc.2 = some p → p.1 ≤ 1000000 ∧ p.2 ≤ 1000000
def spRO (C : Addr) : Sp := fun vs H Q _ => ∃ (pg z : Str) (rs : List Str), vs = [.str pg, .str z] ∧ pg.length ≤ 1000 ∧ Fits z rs ∧ rs ≠ [] ∧ ScOk (scan isWord (rs.map tl)) ∧
  ∀ (x : RX) H', x.Ok → Same H x.H0 → x.pg = pg → x.ws = (scan isWord (rs.map tl)).1 → (∀ p, (scan isWord (rs.map tl)).2 = some p → x.why = "sign" ∧ x.r = p.1 ∧ x.c = p.2) → ((scan isWord (rs.map tl)).2 = none → x.why = "end") → Rd C x H' 0 0 0 [] [] → Q (.ref x.p) H'
theorem scRO : FnScope ["page", "text", "words", "wrong"] ["page", "text"] (defScope sRO) := ⟨rfl, rfl, rfl, by decide +kernel, rfl, by decide +kernel, by decide +kernel⟩
theorem c_ro (T : TxR K mg C) (D : Dn K mg "reader_of" sRO) (MK : ∃ fi fdi, Mk K C fi ∧ Fun K "__init__" "Reader.__init__" (rd 0) fi fdi) (gR : mg "Reader" = some (.ref C)) (G1 : C0 P w K mg base 6 "scanned" spScan) (G2 : C0 P w K mg base 1 "end_place" spEP) : C0 P w K mg base 7 "reader_of" (spRO C) := by
  obtain ⟨f, fd, F, m⟩ := D.ex
  obtain ⟨fi, fdi, mk_, FI⟩ := MK
  have GI : FnOk P w K mg base CX0 1 fi fdi ["self", "page", "words", "stop", "stop_why"] (spRI C) := m_ri T FI
  have bI : Binds K fdi ["self", "page", "words", "stop", "stop_why"] [] := FI.binds (ps := ["self", "page", "words", "stop", "stop_why"]) fun _ _ _ _ _ _ us hl => match us, hl with | [_, _, _, _, _], _ => rfl
  refine ⟨f, fd, ["page", "text"], F.ok scRO (fun vs H Q E h => ?_) (fun cdv A outer s H vs Q E hr h => ?_), m, F.kp, F.binds (ps := ["page", "text"]) fun _ _ _ _ _ _ us hl => match us, hl with | [_, _], _ => rfl⟩
  · obtain ⟨pg, z, rs, rfl, _⟩ := h
    rfl
  obtain ⟨pg, z, rs, rfl, hpg, hF, hne, hsc, k⟩ := h
  refine ⟨_, pss_cons (ps_asg (pe_cc G1 hr (by decide) pass0 (pa_cons (pv 1) pa_nil)) (pg_tup (by rfl) (pgs_cons (pg_name (i := 2) scRO.nd rfl (Or.inl rfl)) (pgs_cons (pg_name (i := 3) scRO.nd rfl (Or.inl rfl)) pgs_nil)))) <|
    pss_cons (ps_if (pt_cmpR op_isN (pv 3) pe_non (nomark _)) (pss_one (ps_ret (pe_make mk_ GI (hr.mono (by decide)) rfl gR bI .nil pass0 (pa_cons (pv 0) (pa_cons (pv 2) (pa_cons (pe_cc G2 hr (by decide) pass0 (pa_cons (pv 1) pa_nil)) (pa_cons pe_str pa_nil))))))) pss_nil) <|
    pss_one (ps_ret (pe_make mk_ GI (hr.mono (by decide)) rfl gR bI .nil pass0 (pa_cons (pv 0) (pa_cons (pv 2) (pa_cons (pv 3) (pa_cons pe_str pa_nil)))))), ?_⟩
  refine ⟨_, rfl, z, rs, rfl, hF, fun H1 p wl st us s1 hp hwl hA hul hst => ?_⟩
  refine ⟨p, _, rfl, SqT.of hp, rfl, _, _, rfl, _, _, rfl, rfl, ?_⟩
  refine ⟨_, rfl, rfl, _, rfl, ?_⟩
  have hlen := hA.length
  -- the new reader at q0 in H2, its stop at q, in H2
  have mkx : ∀ (H2 : Hp) (q : Addr) (r c : Nat) (why : Str), Same H1 H2 → H2 q = some (.tup [.int (r : Nat), .int (c : Nat)]) → r ≤ 1000000 → c ≤ 1000000 → why.length ≤ 1000 → (∀ p, (scan isWord (rs.map tl)).2 = some p → why = "sign" ∧ r = p.1 ∧ c = p.2) → ((scan isWord (rs.map tl)).2 = none → why = "end") →
      ∀ x dx, H2 x = none → H2 dx = none → dx ≠ x → spRI C (.ref x :: ([.str pg, .ref wl, .ref q, .str why] ++ [])) (upd (upd H2 dx (.own x)) x (.ins C dx [])) (fun v H2 => v = .non ∧ Q (.ref x) H2) E0 := fun H2 q r c why s2 hq hr_ hc hw w1 w2 x dx nx nd nxd => by
    have t2 := same_tups s2
    refine ⟨⟨H2, x, wl, q, us, (scan isWord (rs.map tl)).1, r, c, pg, why⟩, dx, rfl, ⟨s2 _ _ hwl, hA.on t2, by rw [← hlen]; exact hul, hq, hr_, hc, hpg, hw, hsc.ww, nx⟩, ?_, upd_same, fun H' RR => ⟨rfl, ?_⟩⟩
    · exact (same_new nd _).trans (same_new (by rw [upd_ne nxd.symm]; exact nx) _)
    · exact k _ H' ⟨s2 _ _ hwl, hA.on t2, by rw [← hlen]; exact hul, hq, hr_, hc, hpg, hw, hsc.ww, nx⟩ (s1.trans s2) rfl rfl w1 w2 RR
  cases e : (scan isWord (rs.map tl)).2 with
  | none =>
    rw [e] at hst
    obtain rfl : st = .non := hst
    refine iteT ⟨_, rfl, _, rfl, _, rfl, z, rs, rfl, hF, hne, fun H2 q r c s2 hq0 hq h1 h2 => ?_⟩
    exact mkx H2 q r c _ s2 hq h1 h2 (by decide +kernel) (fun p hp => by rw [e] at hp; cases hp) (fun _ => rfl)
  | some rc =>
    obtain ⟨r, c⟩ := rc
    rw [e] at hst
    obtain ⟨q, rfl, hq⟩ := hst
    obtain ⟨b1, b2⟩ := hsc.st _ e
    refine iteF ⟨_, rfl, _, rfl, _, rfl, ?_⟩
    exact mkx H1 q r c _ (Same.refl _) hq b1 b2 (by decide +kernel) (fun p hp => by rw [e] at hp; obtain rfl := Option.some.inj hp; exact ⟨rfl, rfl, rfl⟩) (fun z => by rw [e] at z; cases z)
end
end My
namespace My
open PySem L2 SS
section
variable {P : Program} {w : World} {K : PySem.W.Frag} {mg : Str → Option Value} {base : Heap} {S CF fI fS C CP fF fK : Addr}
theorem Rd.putO {x : RX} (o : x.Ok) {H : Hp} {a op e : Nat} {X1 X2 : List V} (h : Rd C x H a op e X1 X2) {l D : Addr} {dx : Addr} {fs : List (Str × V)} (n : x.H0 l = some (.ins D dx fs)) (u' : HO) : (x.on (upd x.H0 l u')).Ok ∧ Rd C (x.on (upd x.H0 l u')) (upd H l u') a op e X1 X2 := by
  obtain ⟨s, dx, l1, l2, l3, X3, h1, n1, n2, n3, h2, h3, h4, r⟩ := h
  have ne : ∀ {b : Addr}, x.H0 b = none → b ≠ l := fun {b} y => fun q => by rw [q, n] at y; cases y
  have up : ∀ {b : Addr} {u : HO}, x.H0 b = none → H b = some u → upd H l u' b = some u := fun {b u} y z => by rw [upd_ne (ne y)]; exact z
  have un : ∀ {b : Addr}, x.H0 b = none → upd x.H0 l u' b = none := fun {b} y => by rw [upd_ne (ne y)]; exact y
  refine ⟨o.on (fun p xs z => ?_) (un o.p0), fun b u z => ?_, dx, l1, l2, l3, X3, up o.p0 h1, un n1, un n2, un n3, up n1 h2, up n2 h3, up n3 h4, r⟩
  · rw [upd_ne (ne_of z n (by intro q; cases q))]
    exact z
  · by_cases c : b = l
    · subst c
      have z' : upd x.H0 b u' b = some u := z
      rw [upd_same] at z'
      rw [upd_same]
      exact z'
    · have z' : upd x.H0 l u' b = some u := z
      rw [upd_ne c] at z'
      rw [upd_ne c]
      exact s b u z'
structure TxP (K : PySem.W.Frag) (mg : Str → Option Value) (C : Addr) : Prop where
  cl : Cls K C
  f1 : NoAttr K C "name"
  f2 : NoAttr K C "text"
  f3 : NoAttr K C "trees"
  f4 : NoAttr K C "words"
  f5 : NoAttr K C "_starts"
/-- what the page's words are, and what is asked: E' where it is refused (row, column, why), R0 where it is read -/
def PgOk (sc : List W × Option (Nat × Nat)) (E' : Nat → Nat → Str → Prop) (R0 : Prop) : Prop :=
  ∃ (k1 k2 k3 k4 : W) (M : List W), sc.1 = k1 :: k2 :: k3 :: k4 :: M ∧ HdOk k1 k2 k3 k4 ∧
  ((∃ k, M = [k] ∧ k.1 = tEnd ∧ (∀ p, sc.2 = some p → E' p.1 p.2 "sign") ∧ (sc.2 = none → R0)) ∨ (∃ kM kN kC Sx t, M = kM :: kN :: kC :: (Sx ++ t) ∧ kM.1 = tMethod ∧ isFree kN.1 = true ∧ kC.1 = tColon ∧ Stms (Sx.map (·.1)) ∧
    ((∃ q1 q2, t = [q1, q2] ∧ q1.1 = tEnd ∧ q2.1 = tEnd ∧ (∀ p, sc.2 = some p → E' p.1 p.2 "sign") ∧ (sc.2 = none → R0)) ∨ (t = [] ∧ ∃ p, sc.2 = some p ∧ E' p.1 p.2 "sign") ∨ (∃ q p r, t = (tDo, q) :: (tRb, p) :: r ∧ E' p.1 p.2 "word"))))
def spPg (CF CP : Addr) : Sp := fun vs H Q E => ∃ (H0 : Hp) (pp dx : Addr) (pg z : Str) (rs : List Str), vs = [.ref pp, .str pg, .str z] ∧ Same H0 H ∧ H0 pp = none ∧ H pp = some (.ins CP dx []) ∧ pg.length ≤ 1000 ∧ Fits z rs ∧ rs ≠ [] ∧ ScOk (scan isWord (rs.map tl)) ∧
  PgOk (scan isWord (rs.map tl)) (fun r c why => ∀ d H', Same H0 H' → H' d = some (.xd (fsF pg why r c)) → E (.ref CF) (some d) H') (∀ H', Same H0 H' → Q .non H')
abbrev sPg : Stmt := inClass (top 42) 0
theorem scPg : FnScope ["self", "name", "text", "reader"] ["self", "name", "text"] (defScope sPg) := ⟨rfl, rfl, rfl, by decide +kernel, rfl, by decide +kernel, by decide +kernel⟩
theorem m_pg (T : TxP K mg CP) (TR : TxR K mg C) (TS : TxS K mg) {f : Addr} {fd : FuncData} (F : Fun K "__init__" "Page.__init__" sPg f fd) (G : C0 P w K mg base 7 "reader_of" (spRO C)) (M1 : M0 P w K mg base C 15 "page_trees" (spPT C CF)) : FnOk P w K mg base (L2.CX P w) 16 f fd ["self", "name", "text"] (spPg CF CP) := by
  refine F.okX scPg (fun vs H Q E h => ?_) (fun cdv A0 outer s H vs Q E hr h => ?_)
  · obtain ⟨H0, pp, dx, pg, z, rs, rfl, _⟩ := h
    rfl
  obtain ⟨H0, pp, dx, pg, z, rs, rfl, s0, hp0, hpp, hpg, hF, hne, hsc, hok⟩ := h
  refine ⟨_, pss_cons (ps_set (i := 3) scPg.nd rfl (Or.inl rfl) (pe_cc G hr (by decide) pass0 (pa_cons (pv 1) (pa_cons (pv 2) pa_nil)))) <|
    pss_cons (ps_fld (pv 0) (pv 1) rfl) <| pss_cons (ps_fld (pv 0) (pv 2) rfl) <|
    pss_cons (ps_fld (pv 0) (pe_mm0 TR.cl M1 hr (by decide) (passes_call (takes_of rfl rfl rfl rfl) fun _ _ _ _ h => h) (pv 3)) rfl) <|
    pss_cons (ps_fld (pv 0) (pe_fld (pv 3) rfl) rfl) <|
    pss_one (ps_fld (pv 0) (pe_callTy call_tuple_of (by rfl) TS.tup (by decide +kernel) (pa_cons (pe_fld (pv 3) rfl) pa_nil)) rfl), ?_⟩
  refine ⟨_, rfl, _, rfl, pg, z, rs, rfl, hpg, hF, hne, hsc, fun x H1 o sx xpg xws xw1 xw2 R => ?_⟩
  have hx1 : x.H0 pp = some (.ins CP dx []) := sx _ _ hpp
  have hH1 : H1 pp = some (.ins CP dx []) := R.1 _ _ hx1
  obtain ⟨o1, R1⟩ := R.putO o hx1 (.ins CP dx (putF "name" (.str pg) []))
  have s1 : Same H0 (upd x.H0 pp (.ins CP dx (putF "name" (.str pg) []))) := fun b u e => by
    rw [upd_ne (ne_of_none e hp0)]
    exact sx _ _ (s0 b u e)
  refine ⟨_, rfl, _, rfl, pp, CP, dx, _, rfl, hH1, T.cl, T.f1, by decide, ?_⟩
  have hx2 : (x.on (upd x.H0 pp (.ins CP dx (putF "name" (.str pg) [])))).H0 pp = some (.ins CP dx (putF "name" (.str pg) [])) := upd_same
  obtain ⟨o2, R2⟩ := R1.putO o1 hx2 (.ins CP dx (putF "text" (.str z) (putF "name" (.str pg) [])))
  refine ⟨_, rfl, _, rfl, pp, CP, dx, _, rfl, upd_same, T.cl, T.f2, by show 1 < 1000; decide, ?_⟩
  have hy : ∃ y : RX, y = (x.on (upd x.H0 pp (.ins CP dx (putF "name" (.str pg) [])))).on (upd (upd x.H0 pp (.ins CP dx (putF "name" (.str pg) []))) pp (.ins CP dx (putF "text" (.str z) (putF "name" (.str pg) [])))) := ⟨_, rfl⟩
  obtain ⟨y, ey⟩ := hy
  have o2' : y.Ok := by rw [ey]; exact o2
  have hyp : y.H0 pp = some (.ins CP dx (putF "text" (.str z) (putF "name" (.str pg) []))) := by rw [ey]; exact upd_same
  have s2 : Same H0 y.H0 := fun b u e => by
    rw [ey]
    show upd (upd x.H0 pp _) pp _ b = some u
    rw [upd_ne (ne_of_none e hp0), upd_ne (ne_of_none e hp0)]
    exact sx _ _ (s0 b u e)
  have yp : y.p = x.p := by rw [ey]; rfl
  have ypg : y.pg = pg := by rw [ey]; exact xpg
  have yws : y.ws = (scan isWord (rs.map tl)).1 := by rw [ey]; exact xws
  have yw : y.why = x.why ∧ y.r = x.r ∧ y.c = x.c := by rw [ey]; exact ⟨rfl, rfl, rfl⟩
  generalize hH3 : upd (upd H1 pp (.ins CP dx (putF "name" (.str pg) []))) pp (.ins CP dx (putF "text" (.str z) (putF "name" (.str pg) []))) = H3 at R2 ⊢
  have R2' : Rd C y H3 0 0 0 [] [] := by rw [ey]; exact R2
  clear R2 o2 hx2 R1 o1
  rw [← yp]
  obtain ⟨dx3, i1, i2, i3, i4⟩ := R2'.obj
  obtain ⟨k1, k2, k3, k4, M, hM, hd, hcase⟩ := hok
  have hFE : ∀ r c (why : Str), (∀ d H', Same H0 H' → H' d = some (.xd (fsF pg why (r : Nat) (c : Nat))) → E (.ref CF) (some d) H') → FE CF y E r c why := fun r c why h d H' s' hx => h d H' (s2.trans s') (by rw [ypg] at hx; exact hx)
  have hSE : ∀ p : Nat × Nat, (scan isWord (rs.map tl)).2 = some p → (∀ d H', Same H0 H' → H' d = some (.xd (fsF pg "sign" (p.1 : Nat) (p.2 : Nat))) → E (.ref CF) (some d) H') → SE_ CF y E := fun p hp h => by
    obtain ⟨w1, w2, w3⟩ := xw1 p hp
    unfold SE_
    rw [yw.1, yw.2.1, yw.2.2, w1, w2, w3]
    exact hFE _ _ _ h
  have key : ∀ RR : Prop, ((∀ p : Nat × Nat, (scan isWord (rs.map tl)).2 = some p → ∀ d H', Same H0 H' → H' d = some (.xd (fsF pg "sign" (p.1 : Nat) (p.2 : Nat))) → E (.ref CF) (some d) H') → ((scan isWord (rs.map tl)).2 = none → ∀ H', Same H0 H' → Q .non H') → RR) → MsOk CF y E RR M := fun RR g => by
    rcases hcase with ⟨k, h1, h2, h3, h4⟩ | ⟨kM, kN, kC, Sx, t, h1, h2, h3, h4, h5, h6⟩
    · exact .inl ⟨k, h1, h2, g h3 h4⟩
    · refine .inr ⟨kM, kN, kC, Sx, t, h1, h2, h3, h4, h5, ?_⟩
      rcases h6 with ⟨q1, q2, g1, g2, g3, g4, g5⟩ | ⟨g1, p, g2, g3⟩ | ⟨q, p, r, g1, g2⟩
      · exact .inl ⟨q1, q2, g1, g2, g3, g g4 g5⟩
      · exact .inr (.inl ⟨g1, hSE p g2 g3⟩)
      · exact .inr (.inr ⟨q, p, r, g1, hFE _ _ _ g2⟩)
  refine ⟨_, rfl, y.p, dx3, _, rfl, i4, by kernel_rfl, y, k1, k2, k3, k4, M, rfl, o2', R2', by rw [yws]; exact hM, hd, key _ fun c1 c2 => ⟨fun hw => ?_, fun hw v H4 X1 X2 R4 => ?_⟩⟩
  · cases e : (scan isWord (rs.map tl)).2 with
    | none =>
      rw [yw.1, xw2 e] at hw
      exact absurd hw (by decide +kernel)
    | some p => exact hSE p e (c1 p e)
  · have hn : (scan isWord (rs.map tl)).2 = none := by
      cases e : (scan isWord (rs.map tl)).2 with
      | none => rfl
      | some p =>
        rw [yw.1, (xw1 p e).1] at hw
        exact absurd rfl hw
    refine ⟨_, rfl, pp, CP, dx, _, rfl, R4.1 _ _ hyp, T.cl, T.f3, by show 2 < 1000; decide, ?_⟩
    obtain ⟨o5, R5⟩ := R4.putO o2' hyp (.ins CP dx (putF "trees" v (putF "text" (.str z) (putF "name" (.str pg) []))))
    obtain ⟨dx5, j1, j2, j3, j4⟩ := R5.obj
    refine ⟨_, rfl, y.p, C, dx5, _, _, rfl, j4, TR.cl, TR.f2, rf_words, _, rfl, pp, CP, dx, _, rfl, upd_same, T.cl, T.f4, by show 3 < 1000; decide, ?_⟩
    have hz5 : (y.on (upd y.H0 pp (.ins CP dx (putF "trees" v (putF "text" (.str z) (putF "name" (.str pg) [])))))).H0 pp = some (.ins CP dx (putF "trees" v (putF "text" (.str z) (putF "name" (.str pg) [])))) := upd_same
    obtain ⟨o6, R6⟩ := R5.putO o5 hz5 (.ins CP dx (putF "words" (.ref y.wl) (putF "trees" v (putF "text" (.str z) (putF "name" (.str pg) [])))))
    obtain ⟨dx6, fs6, l1, u1, u2, u3, _⟩ := R6.sapp o6 (.int 0)
    refine ⟨_, rfl, y.p, C, dx6, fs6, _, rfl, u1, TR.cl, TR.f7, u2, l1, X1, rfl, .inl ⟨SqL.of u3, fun tp htp => ?_⟩⟩
    have htpp : pp ≠ tp := fun q => by rw [← q, upd_same] at htp; cases htp
    refine ⟨_, rfl, pp, CP, dx, _, rfl, by rw [upd_ne htpp, upd_same], T.cl, T.f5, by show 4 < 1000; decide, c2 hn _ fun b u e => ?_⟩
    have eb : b ≠ pp := ne_of_none e hp0
    have e4 : H4 b = some u := R4.1 _ _ (s2 b u e)
    have et : b ≠ tp := fun q => by
      rw [← q, upd_ne eb, upd_ne eb, e4] at htp
      cases htp
    rw [upd_ne eb, upd_ne et, upd_ne eb, upd_ne eb]
    exact e4
end
end My
namespace My
open PySem L2 SS
abbrev sDeck : Stmt := top 44
abbrev sNext : Stmt := top 45
structure TxL (mg : Str → Option Value) : Prop where
  range : mg "range" = none
  mn : mg "min" = none
section
variable {P : Program} {w : World} {K : PySem.W.Frag} {mg : Str → Option Value} {base : Heap} {S CF fI fS C CP fF fK : Addr}
def Small (xs : List Int) : Prop := ∀ v ∈ xs, 0 ≤ v ∧ v < 2147483648
/-- the deck at p: its place, its row of draws at l -/
def DeckAt (H : Hp) (p l : Addr) (a : Nat) (xs : List Int) : Prop := H p = some (.lst [.int (a : Nat), .ref l, .int 70]) ∧ H l = some (.lst (xs.map V.int)) ∧ p ≠ l ∧ Small xs ∧ xs.length ≤ 5000
def spDeck (K : PySem.W.Frag) : Sp := fun vs H Q _ => ∃ (a : Addr) (ns : List Int), vs = [.ref a] ∧ SqL K H a (ns.map V.int) ∧ ns.length ≤ 63 ∧
  ∀ (H' : Hp) (p l : Addr) (xs : List Int), Same H H' → H p = none → H l = none → DeckAt H' p l 0 xs → Q (.ref p) H'
theorem scDeck : FnScope ["_law_script", "_law_row_here", "_law_k", "_law_cell", "_law_n", "_law_one"] ["_law_script"] (defScope sDeck) := ⟨rfl, rfl, rfl, by decide +kernel, rfl, by decide +kernel, by decide +kernel⟩
theorem c_deck (TS : TxS K mg) (T : TxL mg) (D : Dn K mg "_law_deck" sDeck) : C0 P w K mg base 1 "_law_deck" (spDeck K) := by
  obtain ⟨f, fd, F, m⟩ := D.ex
  refine ⟨f, fd, ["_law_script"], F.ok scDeck (fun vs H Q E h => ?_) (fun cdv A outer s H vs Q E hr h => ?_), m, F.kp, F.binds (ps := ["_law_script"]) fun _ _ _ _ _ _ us hl => match us, hl with | [_], _ => rfl⟩
  · obtain ⟨a, ns, rfl, _⟩ := h
    rfl
  obtain ⟨a, ns, rfl, hS, h63, k⟩ := h
  refine ⟨_, pss_cons (ps_set (i := 1) scDeck.nd rfl (Or.inl rfl) (pe_lst pa_nil)) <|
    pss_cons (ps_for PassesOwn.never rfl (pi_range1 rfl T.range (pa_cons (pe_callB (call_min2 rfl) (by rfl) T.mn (by decide +kernel) (pa_cons (pe_callB call_len_seq (by rfl) TS.len PySem.boot_len (pa_cons (pv 0) pa_nil)) (pa_cons pe_int pa_nil))) pa_nil)) (pg_name (i := 2) scDeck.nd rfl (Or.inl rfl)) <|
      pss_cons (ps_set (i := 3) scDeck.nd rfl (Or.inl rfl) (pe_ix ix_list (pv 0) (pv 2) (fun _ _ => rfl))) <|
      pss_one (ps_if (pt_cmpR op_ge (pv 3) (pe_op op_pow pe_int pe_int) (nomark _))
        (pss_one (ps_for PassesOwn.never rfl (pi_range1 rfl T.range (pa_cons pe_int pa_nil)) (pg_name (i := 4) scDeck.nd rfl (Or.inl rfl)) <|
          pss_one (ps_if (pt_cmpR op_gt (pv 3) pe_int (nomark _)) (pss_cons (ps_expr (pe_bm PySem.F.plainAttrs_list PySem.F.slot_list_append PySem.F.type_list_append mt_append (pv 1) (pa_cons (pe_op op_mod (pv 3) pe_int) pa_nil))) <|
            pss_one (ps_set (i := 3) scDeck.nd rfl (Or.inl rfl) (pe_op op_fdiv (pv 3) pe_int))) pss_nil)))
        (pss_cons (ps_set (i := 5) scDeck.nd rfl (Or.inl rfl) (pe_op op_add (pe_op op_add (pe_op op_mul (pv 3) pe_int) (pe_op op_mul (pe_op op_mul (pe_op op_add (pv 2) pe_int) (pe_op op_add (pv 2) pe_int)) pe_int)) pe_int)) <|
          pss_cons (ps_set (i := 5) scDeck.nd rfl (Or.inl rfl) (pe_op op_mod (pv 5) pe_int)) <|
          pss_one (ps_expr (pe_bm PySem.F.plainAttrs_list PySem.F.slot_list_append PySem.F.type_list_append mt_append (pv 1) (pa_cons (pe_op op_mod (pe_op op_mul (pv 5) (pv 5)) pe_int) pa_nil)))))) <|
    pss_one (ps_ret (pe_lst (pa_cons pe_int (pa_cons (pv 1) (pa_cons pe_int pa_nil))))), ?_⟩
  refine ⟨Nat.zero_le _, fun l hl => ?_⟩
  have s0 := same_new hl (.lst [])
  have hlen : (ns.map V.int).length = ns.length := List.length_map _
  refine ⟨_, rfl, a, _, rfl, .inl (s0.seq hS), _, _, rfl, ?_⟩
  have hmin : (if (63 : Int) < ((ns.map V.int).length : Nat) then (63 : Int) else ((ns.map V.int).length : Nat)) = ((ns.length : Nat) : Int) := by
    rw [hlen, if_neg (by omega)]
  rw [hmin]
  refine ⟨_, rfl, by omega, by omega, ?_⟩
  refine for_range (lo := 0) (n := ((ns.length : Nat) : Int).toNat) (fun i σ H1 => ∃ (xs : List Int) (v2 v3 v4 v5 : Option V), σ = [some (.ref a), some (.ref l), v2, v3, v4, v5] ∧ Same H H1 ∧ H1 l = some (.lst (xs.map V.int)) ∧ Small xs ∧ xs.length ≤ 60 * i)
    ⟨[], none, none, none, none, rfl, s0, upd_same, fun v h => by simp at h, by simp⟩ ?_ ?_
  · rintro i σ H1 hi ⟨xs, v2, v3, v4, v5, rfl, s1, h1, hsm, hxl⟩
    have hi2 : i < ns.length := by simpa using hi
    have e0 : (0 : Int) + ((i : Nat) : Int) = ((i : Nat) : Int) := by omega
    rw [e0]
    have hcell : (ns.map V.int)[i]? = some (.int ns[i]) := by rw [List.getElem?_map, List.getElem?_eq_getElem hi2]; rfl
    generalize ns[i] = cell at hcell
    have app : ∀ (H2 : Hp) (ys : List Int) (z : Int), Same H H2 → Same H (upd H2 l (.lst ((ys ++ [z]).map V.int))) := fun H2 ys z s b u e => by
      rw [upd_ne (ne_of_none e hl)]
      exact s b u e
    have sml : ∀ (ys : List Int) (z : Int), Small ys → 0 ≤ z → z < 2147483648 → Small (ys ++ [z]) := fun ys z h h1 h2 v hv => by
      rcases List.mem_append.mp hv with hv | hv
      · exact h v hv
      · simp at hv
        subst hv
        exact ⟨h1, h2⟩
    refine ⟨_, rfl, _, rfl, a, _, _, _, rfl, rfl, s1.seq hS, atI_nat hcell, ?_⟩
    refine ⟨_, rfl, _, _, rfl, rfl, ⟨by decide, by decide, by decide⟩, _, _, rfl, rfl, _, rfl, ?_⟩
    refine ite2 (fun c => ?_) (fun c => ?_)
    · refine ⟨60, rfl, by decide, by decide, ?_⟩
      refine for_range (lo := 0) (n := (60 : Int).toNat) (fun j σ H2 => ∃ (ys : List Int) (cl : Int) (v4 : Option V), σ = [some (.ref a), some (.ref l), some (.int (i : Nat)), some (.int cl), v4, v5] ∧ Same H H2 ∧ H2 l = some (.lst (ys.map V.int)) ∧ Small ys ∧ ys.length ≤ 60 * i + j)
        ⟨xs, cell, v4, rfl, s1, h1, hsm, by omega⟩ ?_ ?_
      · rintro j σ H2 hj ⟨ys, cl, v4', rfl, s2, h2, hs2, hyl⟩
        refine ⟨_, rfl, _, _, rfl, rfl, _, rfl, ?_⟩
        refine ite2 (fun c2 => ?_) (fun c2 => ?_)
        · have hlt : ys.length < sizeLine := by
            rw [sizeLine_eq]
            have : j < 60 := by simpa using hj
            omega
          refine ⟨_, rfl, .inl ⟨rfl, _, SqL.of h2⟩, _, rfl, _, _, rfl, rfl, (by show (0 : Int) < 1000000; decide), l, _, _, rfl, rfl, h2, by rw [List.length_map]; exact hlt, ?_⟩
          refine ⟨_, rfl, _, _, rfl, rfl, ⟨by decide, by decide⟩, ?_⟩
          refine ⟨ys ++ [cl % 1000000], _, _, rfl, ?_, by rw [upd_same, List.map_append]; rfl, sml _ _ hs2 (Int.emod_nonneg _ (by decide)) (by have := Int.emod_lt_of_pos cl (show (0 : Int) < 1000000 by decide); omega), by rw [List.length_append]; simp only [List.length_cons, List.length_nil]; omega⟩
          have := app H2 ys (cl % 1000000) s2
          rw [List.map_append] at this
          exact this
        · exact ⟨ys, cl, _, rfl, s2, h2, hs2, by omega⟩
      · rintro σ H2 ⟨ys, cl, v4', rfl, s2, h2, hs2, hyl⟩
        exact ⟨ys, _, _, _, _, rfl, s2, h2, hs2, by have : (60 : Int).toNat = 60 := rfl; omega⟩
    · have i64 : ((i : Nat) : Int) < 64 := by omega
      refine ⟨_, rfl, _, _, rfl, rfl, .inr ⟨by decide, by decide⟩, _, rfl, _, _, rfl, rfl, _, rfl, _, _, rfl, rfl, _, _, rfl, rfl, .inl ⟨by omega, by omega⟩, _, _, rfl, rfl, .inr ⟨by decide, by decide⟩, _, _, rfl, rfl, _, _, rfl, rfl, ?_⟩
      refine ⟨_, rfl, _, _, rfl, rfl, (by show (0 : Int) < 2147483647; decide), ?_⟩
      obtain ⟨one, hone⟩ : ∃ one : Int, one = (cell * 48271 + (((i : Nat) : Int) + 1) * (((i : Nat) : Int) + 1) * 7919 + 11) % 2147483647 := ⟨_, rfl⟩
      have o0 : 0 ≤ one := by rw [hone]; exact Int.emod_nonneg _ (by decide)
      have o1 : one < 2147483647 := by rw [hone]; exact Int.emod_lt_of_pos _ (by decide)
      show gName 5 (V.int ((cell * 48271 + (((i : Nat) : Int) + 1) * (((i : Nat) : Int) + 1) * 7919 + 11) % 2147483647)) _ _ _
      rw [← hone]
      refine ⟨_, rfl, .inl ⟨rfl, _, SqL.of h1⟩, _, rfl, _, rfl, _, _, rfl, rfl, .inl ⟨by omega, by omega⟩, _, _, rfl, rfl, (by show (0 : Int) < 2147483629; decide), l, _, _, rfl, rfl, h1, by rw [List.length_map, sizeLine_eq]; omega, ?_⟩
      refine ⟨xs ++ [one * one % 2147483629], _, _, _, _, rfl, ?_, by rw [upd_same, List.map_append]; rfl, sml _ _ hsm (Int.emod_nonneg _ (by decide)) (by have := Int.emod_lt_of_pos (one * one) (show (0 : Int) < 2147483629 by decide); omega), by rw [List.length_append]; simp only [List.length_cons, List.length_nil]; omega⟩
      have := app H1 xs (one * one % 2147483629) s1
      rw [List.map_append] at this
      exact this
  · rintro σ H1 ⟨xs, v2, v3, v4, v5, rfl, s1, h1, hsm, hxl⟩
    have hn : ((ns.length : Nat) : Int).toNat = ns.length := by omega
    rw [hn] at hxl
    refine ⟨_, rfl, by show 3 ≤ sizeLine; decide, fun p hp => ?_⟩
    have hpl : p ≠ l := fun z => by rw [z, h1] at hp; cases hp
    exact k _ p l xs (s1.trans (same_new hp _)) (s1.free hp) hl ⟨upd_same, by rw [upd_ne hpl.symm]; exact h1, hpl, hsm, by omega⟩
/-! _law_next -/
def spNext : Sp := fun vs H Q _ => ∃ (p l : Addr) (a : Nat) (xs : List Int), vs = [.ref p] ∧ DeckAt H p l a xs ∧ a ≤ 10000 ∧ ∀ (n : Int), 0 ≤ n → DeckAt (upd H p (.lst [.int ((a + 1 : Nat) : Int), .ref l, .int 70])) p l (a + 1) xs → Q (.int n) (upd H p (.lst [.int ((a + 1 : Nat) : Int), .ref l, .int 70]))
theorem scNext : FnScope ["_law_deck_here", "_law_at", "_law_row_here", "_law_one"] ["_law_deck_here"] (defScope sNext) := ⟨rfl, rfl, rfl, by decide +kernel, rfl, by decide +kernel, by decide +kernel⟩
theorem c_next (TS : TxS K mg) (D : Dn K mg "_law_next" sNext) : C0 P w K mg base 1 "_law_next" spNext := by
  obtain ⟨f, fd, F, m⟩ := D.ex
  refine ⟨f, fd, ["_law_deck_here"], F.ok scNext (fun vs H Q E h => ?_) (fun cdv A outer s H vs Q E hr h => ?_), m, F.kp, F.binds (ps := ["_law_deck_here"]) fun _ _ _ _ _ _ us hl => match us, hl with | [_], _ => rfl⟩
  · obtain ⟨p, l, a, xs, rfl, _⟩ := h
    rfl
  obtain ⟨p, l, a, xs, rfl, ⟨h1, h2, hpl, hsm, hxl⟩, ha, k⟩ := h
  refine ⟨_, pss_cons (ps_set (i := 1) scNext.nd rfl (Or.inl rfl) (pe_ix ix_list (pv 0) pe_int (fun _ _ => rfl))) <|
    pss_cons (ps_asg (pe_op op_add (pv 1) pe_int) (pg_sub (pv 0) pe_int set_list)) <|
    pss_cons (ps_set (i := 2) scNext.nd rfl (Or.inl rfl) (pe_ix ix_list (pv 0) pe_int (fun _ _ => rfl))) <|
    pss_cons (ps_if (pt_cmpR op_lt (pv 1) (pe_callB call_len_seq (by rfl) TS.len PySem.boot_len (pa_cons (pv 2) pa_nil)) (nomark _)) (pss_one (ps_ret (pe_ix ix_list (pv 2) (pv 1) (fun _ _ => rfl)))) pss_nil) <|
    pss_cons (ps_if (pt_cmpR op_eq (pe_callB call_len_seq (by rfl) TS.len PySem.boot_len (pa_cons (pv 2) pa_nil)) pe_int (nomark _)) (pss_one (ps_ret (pe_op op_mod (pe_op op_mul (pe_op op_mul (pe_op op_mul (pe_op op_add (pv 1) pe_int) (pe_op op_add (pv 1) pe_int)) (pe_op op_add (pv 1) pe_int)) pe_int) pe_int))) pss_nil) <|
    pss_cons (ps_set (i := 3) scNext.nd rfl (Or.inl rfl) (pe_op op_add (pe_ix ix_list (pv 2) (pe_op op_mod (pv 1) (pe_callB call_len_seq (by rfl) TS.len PySem.boot_len (pa_cons (pv 2) pa_nil))) (fun _ _ => rfl)) (pe_op op_mul pe_int (pe_ix ix_list (pv 2) (pe_op op_mod (pe_op op_mul (pv 1) pe_int) (pe_callB call_len_seq (by rfl) TS.len PySem.boot_len (pa_cons (pv 2) pa_nil))) (fun _ _ => rfl))))) <|
    pss_cons (ps_set (i := 3) scNext.nd rfl (Or.inl rfl) (pe_op op_add (pe_op op_add (pv 3) (pe_op op_mul (pe_op op_mul (pv 1) (pv 1)) pe_int)) pe_int)) <|
    pss_one (ps_ret (pe_op op_mod (pe_op op_mul (pv 3) (pv 3)) pe_int)), ?_⟩
  have hat0 : atI [V.int (a : Nat), .ref l, .int 70] 0 = some (.int (a : Nat)) := atI_0
  have ec : ((a : Nat) : Int) + 1 = ((a + 1 : Nat) : Int) := by omega
  refine ⟨_, rfl, p, _, _, _, rfl, rfl, SqL.of h1, hat0, ?_⟩
  refine ⟨_, rfl, _, _, rfl, rfl, _, rfl, p, _, 0, 0, rfl, rfl, h1, rfl, ?_⟩
  have eset : ([V.int (a : Nat), .ref l, .int 70] : List V).set 0 (.int (((a : Nat) : Int) + 1)) = [.int ((a + 1 : Nat) : Int), .ref l, .int 70] := by
    rw [ec]
    rfl
  show tSeq _ _ _ _ (upd H p (.lst (([V.int (a : Nat), .ref l, .int 70] : List V).set 0 (.int (((a : Nat) : Int) + 1)))))
  rw [eset]
  have dk : DeckAt (upd H p (.lst [.int ((a + 1 : Nat) : Int), .ref l, .int 70])) p l (a + 1) xs := ⟨upd_same, by rw [upd_ne hpl.symm]; exact h2, hpl, hsm, hxl⟩
  have kk : ∀ n : Int, 0 ≤ n → Q (.int n) (upd H p (.lst [.int ((a + 1 : Nat) : Int), .ref l, .int 70])) := fun n hn => k n hn dk
  have hl2 := dk.2.1
  generalize upd H p (.lst [.int ((a + 1 : Nat) : Int), .ref l, .int 70]) = H1 at dk kk hl2 ⊢
  have hat1 : atI [V.int ((a + 1 : Nat) : Int), .ref l, .int 70] 1 = some (.ref l) := atI_nat (j := 1) rfl
  refine ⟨_, rfl, p, _, _, _, rfl, rfl, SqL.of dk.1, hat1, ?_⟩
  have hlen : (xs.map V.int).length = xs.length := List.length_map _
  have get : ∀ j : Nat, j < xs.length → ∃ z : Int, atI (xs.map V.int) ((j : Nat) : Int) = some (.int z) ∧ 0 ≤ z ∧ z < 2147483648 := fun j hj => by
    refine ⟨xs[j], atI_nat (by rw [List.getElem?_map, List.getElem?_eq_getElem hj]; rfl), hsm _ (List.getElem_mem hj)⟩
  refine ⟨_, rfl, _, rfl, l, _, rfl, .inl (SqL.of hl2), _, _, rfl, rfl, _, rfl, ?_⟩
  rw [hlen]
  refine ite2 (fun c => ?_) (fun c => ?_)
  · have c1 := of_decide_eq_true c
    obtain ⟨z, hz, z0, _⟩ := get a (by omega)
    exact ⟨_, rfl, _, rfl, l, _, _, _, rfl, rfl, SqL.of hl2, hz, kk z z0⟩
  refine ⟨_, rfl, l, _, rfl, .inl (SqL.of hl2), rfl, _, rfl, ?_⟩
  rw [hlen]
  have ha2 : ((a : Nat) : Int) ≤ 10000 := by omega
  have ha0 : 0 ≤ ((a : Nat) : Int) := by omega
  refine ite2 (fun c2 => ?_) (fun c2 => ?_)
  · refine ⟨_, rfl, _, _, rfl, rfl, _, rfl, _, _, rfl, rfl, _, _, rfl, rfl, .inl ⟨by omega, by omega⟩, _, rfl, _, _, rfl, rfl, _, _, rfl, rfl, .inr ⟨by omega, by omega⟩, _, _, rfl, rfl, .inr ⟨by decide, by decide⟩, _, _, rfl, rfl, (by show (0 : Int) < 2147483629; decide), ?_⟩
    exact kk _ (Int.emod_nonneg _ (by decide))
  · have c3 := of_decide_eq_false (Bool.eq_false_iff.mpr c2)
    have hx : 0 < xs.length := by
      rcases Nat.eq_zero_or_pos xs.length with h | h
      · exact absurd (by rw [h]; rfl) c3
      · exact h
    have hx' : (0 : Int) < ((xs.length : Nat) : Int) := by omega
    have md : ∀ y : Int, ∃ j : Nat, y % ((xs.length : Nat) : Int) = ((j : Nat) : Int) ∧ j < xs.length := fun y => by
      have h1 := Int.emod_nonneg y (show ((xs.length : Nat) : Int) ≠ 0 by omega)
      have h2 := Int.emod_lt_of_pos y hx'
      exact ⟨(y % ((xs.length : Nat) : Int)).toNat, by omega, by omega⟩
    obtain ⟨j1, e1, hj1⟩ := md ((a : Nat) : Int)
    obtain ⟨j2, e2, hj2⟩ := md (((a : Nat) : Int) * 5)
    obtain ⟨z1, hz1, z10, z11⟩ := get j1 hj1
    obtain ⟨z2, hz2, z20, z21⟩ := get j2 hj2
    refine ⟨_, rfl, _, rfl, _, rfl, l, _, rfl, .inl (SqL.of hl2), _, _, rfl, rfl, by rw [hlen]; exact hx', l, _, _, _, rfl, rfl, SqL.of hl2, by rw [hlen, e1]; exact hz1, ?_⟩
    refine ⟨_, rfl, _, rfl, _, _, rfl, rfl, .inl ⟨by omega, by omega⟩, _, rfl, l, _, rfl, .inl (SqL.of hl2), _, _, rfl, rfl, by rw [hlen]; exact hx', l, _, _, _, rfl, rfl, SqL.of hl2, by rw [hlen, e2]; exact hz2, ?_⟩
    refine ⟨_, _, rfl, rfl, .inl ⟨by decide, by decide⟩, _, _, rfl, rfl, ?_⟩
    refine ⟨_, rfl, _, rfl, _, rfl, _, _, rfl, rfl, .inl ⟨by omega, by omega⟩, _, _, rfl, rfl, .inr ⟨by decide, by decide⟩, _, _, rfl, rfl, _, _, rfl, rfl, ?_⟩
    have haa : ((a : Nat) : Int) * ((a : Nat) : Int) ≤ 100000000 := by
      have : ((a : Nat) : Int) * ((a : Nat) : Int) ≤ 10000 * 10000 := Int.mul_le_mul ha2 ha2 ha0 (by decide)
      omega
    have haa0 : 0 ≤ ((a : Nat) : Int) * ((a : Nat) : Int) := Int.mul_nonneg ha0 ha0
    obtain ⟨y, hy⟩ : ∃ y : Int, y = z1 + 7 * z2 + ((a : Nat) : Int) * ((a : Nat) : Int) * 40503 + 1 := ⟨_, rfl⟩
    show gName 3 (V.int (z1 + 7 * z2 + ((a : Nat) : Int) * ((a : Nat) : Int) * 40503 + 1)) _ _ _
    rw [← hy]
    refine ⟨_, rfl, _, rfl, _, _, rfl, rfl, .inl ⟨by omega, by omega⟩, _, _, rfl, rfl, (by show (0 : Int) < 2147483629; decide), ?_⟩
    exact kk _ (Int.emod_nonneg _ (by decide))
end
end My
namespace My
open PySem L2 SS
abbrev sLRow : Stmt := top 47
def cDo1 : T := [100, 111, 32, 49]
def cSay : T := [115, 97, 121, 32, 115, 101, 108, 102]
def cAbc : T := [120, 32, 58, 61, 32, 39, 97, 98, 99]
def cRet : T := [114, 101, 116, 117, 114, 110, 32, 110, 111, 110, 101]
def cL24 : T := (List.replicate 24 [100, 111, 32, 49, 32]).flatten
def cT1 : T := (List.replicate 4 [100, 111, 32, 49, 32]).flatten
def cT2 : T := [32, 32, 45, 48, 32] ++ (List.replicate 3 [100, 111, 32, 49, 32]).flatten
/-- the row of many signs: blanks; words throughout; blanks ahead, a statement, blanks behind -/
def Special (size : Nat) (l : T) : Prop :=
  l = List.replicate size 32 ∨ (122 < size ∧ ∃ t, (t = cT1 ∨ t = cT2) ∧ l = cL24 ++ t.take (size - 120)) ∨
  (∃ h c, h < 60 ∧ (c = cDo1 ∨ c = cSay ∨ c = cAbc ∨ c = cRet) ∧ l = List.replicate h 32 ++ c ++ List.replicate (size - h - c.length) 32)
theorem cut_to (z : Str) (n : Nat) : cutS z none (some (n : Nat)) = mk ((tl z).take n) := by
  unfold cutS
  rw [HT.sIx_none, HT.sIx_nat]
  have hl := len_tl z
  show mk (List.take (min n z.length - 0) (List.drop 0 (tl z))) = _
  rw [List.drop_zero, Nat.sub_zero]
  by_cases h : n ≤ z.length
  · rw [Nat.min_eq_left h]
  · rw [Nat.min_eq_right (by omega), List.take_of_length_le (by omega), List.take_of_length_le (by omega)]
theorem tl_add (a b : Str) : tl (a ++ b) = tl a ++ tl b := by
  show (a.cps ++ b.cps).toList = _
  simp
section
variable {P : Program} {w : World} {K : PySem.W.Frag} {mg : Str → Option Value} {base : Heap} {S CF fI fS C CP fF fK : Addr}
def spLRow : Sp := fun vs H Q _ => ∃ (size : Nat) (d : Int), vs = [.int (size : Nat), .int d] ∧ 100 ≤ size ∧ size ≤ 140 ∧ 0 ≤ d ∧ ∀ (z : Str) (H' : Hp), Same H H' → Special size (tl z) → Q (.str z) H'
theorem scLRow : FnScope ["_law_size", "_law_draw", "_law_core", "_law_head", "_law_row_here"] ["_law_size", "_law_draw"] (defScope sLRow) := ⟨rfl, rfl, rfl, by decide +kernel, rfl, by decide +kernel, by decide +kernel⟩
theorem rep_1 (n : Nat) : tl (repS (Str.ofString " ") ((n : Nat) : Int)) = List.replicate n 32 := by
  show (List.replicate ((n : Nat) : Int).toNat (Str.ofString " ").cps.toList).flatten.toArray.toList = _
  have e : (Str.ofString " ").cps.toList = [32] := by decide +kernel
  rw [e]
  simp
theorem c_lrow (TS : TxS K mg) (D : Dn K mg "_law_row" sLRow) : C0 P w K mg base 1 "_law_row" spLRow := by
  obtain ⟨f, fd, F, m⟩ := D.ex
  refine ⟨f, fd, ["_law_size", "_law_draw"], F.ok scLRow (fun vs H Q E h => ?_) (fun cdv A outer s H vs Q E hr h => ?_), m, F.kp, F.binds (ps := ["_law_size", "_law_draw"]) fun _ _ _ _ _ _ us hl => match us, hl with | [_, _], _ => rfl⟩
  · obtain ⟨size, d, rfl, _⟩ := h
    rfl
  obtain ⟨size, d, rfl, h1, h2, hd, k⟩ := h
  refine ⟨_, pss_cons (ps_set (i := 2) scLRow.nd rfl (Or.inl rfl) (pe_ix ix_list (pe_lst (pa_cons pe_str (pa_cons pe_str (pa_cons pe_str (pa_cons pe_str (pa_cons pe_str pa_nil)))))) (pe_op op_mod (pv 1) pe_int) (fun _ _ => rfl))) <|
    pss_cons (ps_set (i := 3) scLRow.nd rfl (Or.inl rfl) (pe_op op_mod (pe_op op_fdiv (pv 1) pe_int) pe_int)) <|
    pss_cons (ps_if (pt_cmpR op_eq (pv 2) pe_str (nomark _)) (pss_one (ps_ret (pe_op op_mul_str pe_str (pv 0)))) pss_nil) <|
    pss_cons (ps_if (PW.pt (pw_and (pt_cmpR op_gt (pv 0) pe_int (nomark _)) (pw_and1 (pt_cmpR op_gt (pe_op op_mod (pe_op op_fdiv (pv 1) pe_int) pe_int) pe_int (nomark _)))))
      (pss_cons (ps_set (i := 4) scLRow.nd rfl (Or.inl rfl) (pe_op op_mul_str pe_str pe_int)) <|
        pss_one (ps_ret (pe_op op_add_str (pv 4) (pe_slice sl_str (pe_ix ix_list (pe_lst (pa_cons pe_str (pa_cons pe_str pa_nil))) (pe_op op_mod (pe_op op_fdiv (pv 1) pe_int) pe_int) (fun _ _ => rfl)) po_none (po_some (pe_op op_sub (pv 0) pe_int)))))) pss_nil) <|
    pss_one (ps_ret (pe_op op_add_str (pe_op op_add_str (pe_op op_mul_str pe_str (pv 3)) (pv 2)) (pe_op op_mul_str pe_str (pe_op op_sub (pe_op op_sub (pv 0) (pv 3)) (pe_callB call_len_str (by rfl) TS.len PySem.boot_len (pa_cons (pv 2) pa_nil)))))), ?_⟩
  have core : ∃ c : Str, atI [V.str (Str.ofString "do 1"), V.str (Str.ofString "say self"), V.str (Str.ofString "x := 'abc"), V.str (Str.ofString ""), V.str (Str.ofString "return none")] (d % 5) = some (.str c) ∧ (tl c = [] ∨ tl c = cDo1 ∨ tl c = cSay ∨ tl c = cAbc ∨ tl c = cRet) := by
    have e0 := Int.emod_nonneg d (show (5 : Int) ≠ 0 by decide)
    have e1 := Int.emod_lt_of_pos d (show (0 : Int) < 5 by decide)
    obtain ⟨j, hj⟩ : ∃ j : Nat, d % 5 = (j : Nat) := ⟨(d % 5).toNat, by omega⟩
    rw [hj]
    have hj5 : j < 5 := by omega
    rcases j with _ | _ | _ | _ | _ | j
    · exact ⟨_, atI_nat rfl, .inr (.inl (by decide +kernel))⟩
    · exact ⟨_, atI_nat rfl, .inr (.inr (.inl (by decide +kernel)))⟩
    · exact ⟨_, atI_nat rfl, .inr (.inr (.inr (.inl (by decide +kernel))))⟩
    · exact ⟨_, atI_nat rfl, .inl (by decide +kernel)⟩
    · exact ⟨_, atI_nat rfl, .inr (.inr (.inr (.inr (by decide +kernel))))⟩
    · omega
  obtain ⟨c, hc, ecore⟩ := core
  obtain ⟨h, eh, h60⟩ : ∃ h : Nat, d / 5 % 60 = (h : Nat) ∧ h < 60 := by
    have e0 := Int.emod_nonneg (d / 5) (show (60 : Int) ≠ 0 by decide)
    have e1 := Int.emod_lt_of_pos (d / 5) (show (0 : Int) < 60 by decide)
    exact ⟨(d / 5 % 60).toNat, by omega, by omega⟩
  have hsp : (Str.ofString " ").length = 1 := by decide +kernel
  refine ⟨by decide, fun l hl => ?_⟩
  have s1 := same_new hl (.lst [V.str (Str.ofString "do 1"), V.str (Str.ofString "say self"), V.str (Str.ofString "x := 'abc"), V.str (Str.ofString ""), V.str (Str.ofString "return none")])
  refine ⟨_, rfl, _, _, rfl, rfl, (by show (0 : Int) < 5; decide), l, _, _, _, rfl, rfl, SqL.of upd_same, hc, ?_⟩
  refine ⟨_, rfl, _, _, rfl, rfl, ⟨by decide, by decide⟩, _, _, rfl, rfl, (by show (0 : Int) < 60; decide), ?_⟩
  show gName 3 (V.int (d / 5 % 60)) _ _ _
  rw [eh]
  refine ⟨_, rfl, rfl, _, rfl, ?_⟩
  rw [dec_str]
  refine ite2 (fun c1 => ?_) (fun c1 => ?_)
  · refine ⟨_, rfl, _, _, rfl, rfl, by omega, by omega, by rw [hsp]; decide, by rw [hsp]; decide, k _ _ s1 (.inl ?_)⟩
    exact rep_1 size
  have nb : tl c = cDo1 ∨ tl c = cSay ∨ tl c = cAbc ∨ tl c = cRet := by
    rcases ecore with e | e
    · have e2 : c = Str.ofString "" := by
        rw [← mk_tl c, e]
        decide +kernel
      rw [e2] at c1
      exact absurd (decide_eq_true rfl) c1
    · exact e
  have clen : (tl c).length ≤ 11 := by rcases nb with e | e | e | e <;> rw [e] <;> decide
  have clen2 := len_tl c
  have last : ∀ H2 : Hp, Same H H2 → ∀ zz : Str, tl zz = List.replicate h 32 ++ tl c ++ List.replicate (size - h - (tl c).length) 32 → Q (.str zz) H2 := fun H2 s2 zz ez => k _ _ s2 (.inr (.inr ⟨h, tl c, h60, nb, ez⟩))
  refine ⟨_, rfl, _, _, rfl, rfl, _, rfl, ?_⟩
  refine ite2 (fun c2 => ?_) (fun c2 => ?_)
  · have c2' : (122 : Int) < ((size : Nat) : Int) := of_decide_eq_true c2
    refine ⟨_, rfl, _, _, rfl, rfl, ⟨by decide, by decide⟩, _, _, rfl, rfl, (by show (0 : Int) < 3; decide), _, _, rfl, rfl, _, rfl, ?_⟩
    refine ite2 (fun c3 => ?_) (fun c3 => ?_)
    · refine ⟨_, 24, rfl, rfl, by decide, by decide, by decide +kernel, by decide +kernel, ?_⟩
      have ht : ∃ t : Str, atI [V.str (Str.ofString "do 1 do 1 do 1 do 1 "), V.str (Str.ofString "  -0 do 1 do 1 do 1 ")] (d / 900 % 2) = some (.str t) ∧ (tl t = cT1 ∨ tl t = cT2) := by
        have e0 := Int.emod_nonneg (d / 900) (show (2 : Int) ≠ 0 by decide)
        have e1 := Int.emod_lt_of_pos (d / 900) (show (0 : Int) < 2 by decide)
        obtain ⟨j, hj⟩ : ∃ j : Nat, d / 900 % 2 = (j : Nat) := ⟨(d / 900 % 2).toNat, by omega⟩
        rw [hj]
        have hj5 : j < 2 := by omega
        rcases j with _ | _ | j
        · exact ⟨_, atI_nat rfl, .inl (by decide +kernel)⟩
        · exact ⟨_, atI_nat rfl, .inr (by decide +kernel)⟩
        · omega
      obtain ⟨t, ht, et⟩ := ht
      have tlen : (tl t).length = 20 := by rcases et with e | e <;> rw [e] <;> decide +kernel
      refine ⟨_, rfl, by decide, fun l2 hl2 => ?_⟩
      have s2 := same_upd s1 (s1.free hl2) (.lst [V.str (Str.ofString "do 1 do 1 do 1 do 1 "), V.str (Str.ofString "  -0 do 1 do 1 do 1 ")])
      refine ⟨_, rfl, _, _, rfl, rfl, ⟨by decide, by decide⟩, _, _, rfl, rfl, (by show (0 : Int) < 2; decide), l2, _, _, _, rfl, rfl, SqL.of upd_same, ht, ?_⟩
      refine ⟨_, rfl, _, _, rfl, rfl, _, rfl, t, rfl, by rw [← len_tl, tlen]; decide, ?_⟩
      have ez : ((size : Nat) : Int) - 120 = ((size - 120 : Nat) : Int) := by omega
      rw [ez, cut_to]
      refine ⟨_, _, rfl, rfl, ?_, k _ _ s2 (.inr (.inl ⟨by omega, tl t, et, ?_⟩))⟩
      · show (repS (Str.ofString "do 1 ") 24).length + _ ≤ _
        have g1 : (repS (Str.ofString "do 1 ") 24).length = 120 := by decide +kernel
        have g2 : (mk (List.take (size - 120) (tl t))).length = min (size - 120) 20 := by rw [mk_len, List.length_take, tlen]
        rw [g1, g2, sizeLine_eq]
        omega
      · rw [tl_add]
        have : tl (repS (Str.ofString "do 1 ") 24) = cL24 := by decide +kernel
        rw [this]
    · refine ⟨_, rfl, _, _, rfl, rfl, by omega, by omega, by rw [hsp]; decide, by rw [hsp]; decide, _, rfl, _, _, rfl, rfl, ?_, _, rfl, _, rfl, _, _, rfl, rfl, _, rfl, c, rfl, ?_, _, _, rfl, rfl, _, _, rfl, rfl, ?_, ?_, by rw [hsp]; decide, by rw [hsp]; decide, _, _, rfl, rfl, ?_, last _ s1 _ ?_⟩
      · rw [repS_length, hsp, sizeLine_eq]; omega
      · rw [sizeLine_eq]; omega
      · omega
      · omega
      · rw [repS_length, hsp, sizeLine_eq]
        have : (repS (Str.ofString " ") ((h : Nat) : Int) ++ c).length = h + c.length := by rw [← len_tl, tl_add, List.length_append, rep_1, List.length_replicate, len_tl]
        omega
      · rw [tl_add, tl_add, rep_1, ← len_tl c]
        have : ((size : Nat) : Int) - ((h : Nat) : Int) - (((tl c).length : Nat) : Int) = ((size - h - (tl c).length : Nat) : Int) := by omega
        rw [this, rep_1]
  · refine iteF ?_
    refine ⟨_, rfl, _, _, rfl, rfl, by omega, by omega, by rw [hsp]; decide, by rw [hsp]; decide, _, rfl, _, _, rfl, rfl, ?_, _, rfl, _, rfl, _, _, rfl, rfl, _, rfl, c, rfl, ?_, _, _, rfl, rfl, _, _, rfl, rfl, ?_, ?_, by rw [hsp]; decide, by rw [hsp]; decide, _, _, rfl, rfl, ?_, last _ s1 _ ?_⟩
    · rw [repS_length, hsp, sizeLine_eq]; omega
    · rw [sizeLine_eq]; omega
    · omega
    · omega
    · rw [repS_length, hsp, sizeLine_eq]
      have : (repS (Str.ofString " ") ((h : Nat) : Int) ++ c).length = h + c.length := by rw [← len_tl, tl_add, List.length_append, rep_1, List.length_replicate, len_tl]
      omega
    · rw [tl_add, tl_add, rep_1, ← len_tl c]
      have : ((size : Nat) : Int) - ((h : Nat) : Int) - (((tl c).length : Nat) : Int) = ((size - h - (tl c).length : Nat) : Int) := by omega
      rw [this, rep_1]
end
end My
namespace My
open PySem L2 SS
abbrev sDue : Stmt := top 48
/-! ### faults: row, column, why -/
abbrev FT := Nat × Nat × Str
abbrev wSign : Str := "sign"
abbrev wWord : Str := "word"
def fD (q : FT) : List V := [.int (q.1 : Nat), .int (q.2.1 : Nat), .str q.2.2]
def tD (q : FT) : PyData := .tuple [.int (q.1 : Nat), .int (q.2.1 : Nat), .str q.2.2]
def kle (a b : FT) : Prop := a.1 < b.1 ∨ (a.1 = b.1 ∧ a.2.1 ≤ b.2.1)
theorem eqv_int (i j : Int) : PyData.eqv (.int i) (.int j) = decide (i = j) := by
  exact PySem.W.Datum.eqv (α := Int) i j
theorem alike_int (i j : Int) : PySem.W.alike (.int i) (.int j) = true := by simp only [PySem.W.alike]
theorem alike_str (i j : Str) : PySem.W.alike (.str i) (.str j) = true := by simp only [PySem.W.alike]
theorem lt_tD (a b : FT) : (PySem.W.dataLt (tD a) (tD b) = true → kle a b) ∧ (PySem.W.dataLt (tD a) (tD b) = false → kle b a) := by
  unfold tD
  rw [PySem.W.dataLt_tuple]
  by_cases h1 : a.1 = b.1
  · rw [PySem.W.dataLt_all_yes (alike_int _ _) (by rw [eqv_int, decide_eq_true_eq]; omega)]
    by_cases h2 : a.2.1 = b.2.1
    · exact ⟨fun _ => .inr ⟨h1, by omega⟩, fun _ => .inr ⟨h1.symm, by omega⟩⟩
    · rw [PySem.W.dataLt_all_no (alike_int _ _) (by rw [eqv_int, decide_eq_false_iff_not]; omega), PySem.W.dataLt_int]
      refine ⟨fun h => .inr ⟨h1, ?_⟩, fun h => .inr ⟨h1.symm, ?_⟩⟩
      · have := of_decide_eq_true h; omega
      · have := of_decide_eq_false h; omega
  · rw [PySem.W.dataLt_all_no (alike_int _ _) (by rw [eqv_int, decide_eq_false_iff_not]; omega), PySem.W.dataLt_int]
    refine ⟨fun h => .inl ?_, fun h => .inl ?_⟩
    · have := of_decide_eq_true h; omega
    · have := of_decide_eq_false h; omega
theorem min_tD : ∀ (xs : List FT) (x : FT), ∃ e ∈ x :: xs, PySem.W.minD (tD x) (xs.map tD) = tD e ∧ ∀ y ∈ x :: xs, kle e y
  | [], x => ⟨x, List.mem_cons_self, rfl, fun y hy => by
      rcases List.mem_cons.mp hy with h | h
      · subst h; exact .inr ⟨rfl, Nat.le_refl _⟩
      · simp at h⟩
  | y :: r, x => by
    have tr : ∀ {a b c : FT}, kle a b → kle b c → kle a c := fun {a b c} h1 h2 => by
      unfold kle at *
      omega
    have rf : ∀ a : FT, kle a a := fun a => .inr ⟨rfl, Nat.le_refl _⟩
    obtain ⟨z, hz, ez, k1, k2⟩ : ∃ z, (z = x ∨ z = y) ∧ (if PySem.W.dataLt (tD y) (tD x) then tD y else tD x) = tD z ∧ kle z x ∧ kle z y := by
      cases c : PySem.W.dataLt (tD y) (tD x) with
      | true => exact ⟨y, .inr rfl, rfl, (lt_tD y x).1 c, rf y⟩
      | false => exact ⟨x, .inl rfl, rfl, rf x, (lt_tD y x).2 c⟩
    obtain ⟨e, he, ee, ke⟩ := min_tD r z
    refine ⟨e, ?_, ?_, fun u hu => ?_⟩
    · rcases List.mem_cons.mp he with h | h
      · rw [h]
        rcases hz with h | h <;> rw [h] <;> simp
      · exact List.mem_cons_of_mem _ (List.mem_cons_of_mem _ h)
    · rw [← ee, ← ez]
      rfl
    · have kz := ke z List.mem_cons_self
      rcases List.mem_cons.mp hu with h | h
      · subst h; exact tr kz k1
      · rcases List.mem_cons.mp h with h | h
        · subst h; exact tr kz k2
        · exact ke u (List.mem_cons_of_mem _ h)
theorem alike_tD (qs : List FT) : PySem.W.AlikeAll (qs.map tD) := by
  refine ⟨fun x hx y hy => ?_, fun x hx => ?_⟩
  · obtain ⟨a, _, rfl⟩ := List.mem_map.mp hx
    obtain ⟨b, _, rfl⟩ := List.mem_map.mp hy
    unfold tD
    simp only [PySem.W.alike, PySem.W.alikeAll, Bool.and_self]
  · obtain ⟨a, _, rfl⟩ := List.mem_map.mp hx
    intro z
    cases z
theorem depth_tD : ∀ qs : List FT, PyData.depthAll (qs.map tD) ≤ 20
  | [] => by decide
  | q :: r => by
    have := depth_tD r
    show max (PyData.depth (tD q)) (PyData.depthAll (r.map tD)) ≤ 20
    exact Nat.max_le.mpr ⟨by show 1 ≤ 20; decide, this⟩
theorem tD_inj {a b : FT} (h : tD a = tD b) : a = b := by
  obtain ⟨a1, a2, a3⟩ := a
  obtain ⟨b1, b2, b3⟩ := b
  unfold tD at h
  injection h with h
  injection h with h1 h
  injection h with h2 h
  injection h with h3 h
  injection h1 with h1
  injection h2 with h2
  injection h3 with h3
  have e1 : a1 = b1 := by exact_mod_cast h1
  have e2 : a2 = b2 := by exact_mod_cast h2
  subst e1 e2 h3
  rfl
/-- the first of these faults -/
def DueOf (L : List FT) : Option FT → Prop
  | none => L = []
  | some e => e ∈ L ∧ ∀ y ∈ L, kle e y
def oddS : Nat → Str
  | 0 => Str.ofString ""
  | 1 => Str.ofString "do ]"
  | _ => Str.ofString "~"
def dueL (size at_ many bk spot way : Nat) : List FT :=
  (if size > 120 then [(at_ + 2, 121, wSign)] else []) ++ (if many + 2 > 300 then [(301, 1, wSign)] else []) ++
  (if spot ≠ at_ ∧ bk = 2 then [(spot + 2, 1, wSign)] else []) ++ (if spot ≠ at_ ∧ bk = 1 ∧ way = 1 then [(spot + 2, 4, wWord)] else [])
section
variable {P : Program} {w : World} {K : PySem.W.Frag} {mg : Str → Option Value} {base : Heap} {S CF fI fS C CP fF fK : Addr}
theorem dpT {H : Hp} : ∀ {vs : List V} {qs : List FT}, AllT fD H vs qs → DpAll K H vs (qs.map tD)
  | _, _, .nil => .nil
  | _, _, .cons ⟨p, e, h⟩ r => by
    subst e
    exact .cons (.tup (SqT.of h) (.cons (.int _) (.cons (.int _) (.cons (.str _) .nil)))) (dpT r)
/-- none, or a tuple -/
def DueV (H : Hp) (v : V) : Option FT → Prop
  | none => v = .non
  | some e => ∃ p, v = .ref p ∧ H p = some (.tup (fD e))
def spDue : Sp := fun vs H Q _ => ∃ (size at_ many bk spot way : Nat), vs = [.int (size : Nat), .int (at_ : Nat), .int (many : Nat), .str (oddS bk), .int (spot : Nat), .int (way : Nat)] ∧ bk ≤ 2 ∧
  ∀ (v : V) (H' : Hp) (d : Option FT), Same H H' → DueOf (dueL size at_ many bk spot way) d → DueV H' v d → Q v H'
theorem scDue : FnScope ["_law_size", "_law_at", "_law_many", "_law_odd", "_law_spot", "_law_way", "_law_faults"] ["_law_size", "_law_at", "_law_many", "_law_odd", "_law_spot", "_law_way"] (defScope sDue) := ⟨rfl, rfl, rfl, by decide +kernel, rfl, by decide +kernel, by decide +kernel⟩
theorem c_due (T : TxS K mg) (TM : mg "min" = none) (D : Dn K mg "_law_due" sDue) : C0 P w K mg base 1 "_law_due" spDue := by
  obtain ⟨f, fd, F, m⟩ := D.ex
  refine ⟨f, fd, ["_law_size", "_law_at", "_law_many", "_law_odd", "_law_spot", "_law_way"], F.ok scDue (fun vs H Q E h => ?_) (fun cdv A outer s H vs Q E hr h => ?_), m, F.kp, F.binds (ps := ["_law_size", "_law_at", "_law_many", "_law_odd", "_law_spot", "_law_way"]) fun _ _ _ _ _ _ us hl => match us, hl with | [_, _, _, _, _, _], _ => rfl⟩
  · obtain ⟨size, at_, many, bk, spot, way, rfl, _⟩ := h
    rfl
  obtain ⟨size, at_, many, bk, spot, way, rfl, hbk, k⟩ := h
  refine ⟨_, pss_cons (ps_set (i := 6) scDue.nd rfl (Or.inl rfl) (pe_lst pa_nil)) <|
    C8.pss_cut (ps_if (pt_cmpR op_gt (pv 0) pe_int (nomark _)) (pss_one (ps_expr (pe_bm PySem.F.plainAttrs_list PySem.F.slot_list_append PySem.F.type_list_append mt_append (pv 6) (pa_cons (pe_tup (pa_cons (pe_op op_add (pv 1) pe_int) (pa_cons pe_int (pa_cons pe_str pa_nil)))) pa_nil)))) pss_nil) <|
    C8.pss_cut (ps_if (pt_cmpR op_gt (pe_op op_add (pv 2) pe_int) pe_int (nomark _)) (pss_one (ps_expr (pe_bm PySem.F.plainAttrs_list PySem.F.slot_list_append PySem.F.type_list_append mt_append (pv 6) (pa_cons (pe_tup (pa_cons pe_int (pa_cons pe_int (pa_cons pe_str pa_nil)))) pa_nil)))) pss_nil) <|
    C8.pss_cut (ps_if (PW.pt (pw_and (pt_cmpR op_ne (pv 4) (pv 1) (nomark _)) (pw_and1 (pt_cmpR op_eq (pv 3) pe_str (nomark _))))) (pss_one (ps_expr (pe_bm PySem.F.plainAttrs_list PySem.F.slot_list_append PySem.F.type_list_append mt_append (pv 6) (pa_cons (pe_tup (pa_cons (pe_op op_add (pv 4) pe_int) (pa_cons pe_int (pa_cons pe_str pa_nil)))) pa_nil)))) pss_nil) <|
    C8.pss_cut (ps_if (PW.pt (pw_and (pt_cmpR op_ne (pv 4) (pv 1) (nomark _)) (pw_and (pt_cmpR op_eq (pv 3) pe_str (nomark _)) (pw_and1 (pt_cmpR op_eq (pv 5) pe_int (nomark _)))))) (pss_one (ps_expr (pe_bm PySem.F.plainAttrs_list PySem.F.slot_list_append PySem.F.type_list_append mt_append (pv 6) (pa_cons (pe_tup (pa_cons (pe_op op_add (pv 4) pe_int) (pa_cons pe_int (pa_cons pe_str pa_nil)))) pa_nil)))) pss_nil) <|
    pss_one (ps_ret (pe_callBK (cr_minD rfl hr) (by rfl) TM (by decide +kernel) (pa_cons (pv 6) pa_nil) (pk_cons pe_non pk_nil))), ?_⟩
  refine ⟨Nat.zero_le _, fun l hl => ?_⟩
  obtain ⟨X1, e1⟩ : ∃ x, x = (if size > 120 then [((at_ + 2, 121, wSign) : FT)] else []) := ⟨_, rfl⟩
  obtain ⟨X2, e2⟩ : ∃ x, x = X1 ++ (if many + 2 > 300 then [((301, 1, wSign) : FT)] else []) := ⟨_, rfl⟩
  obtain ⟨X3, e3⟩ : ∃ x, x = X2 ++ (if spot ≠ at_ ∧ bk = 2 then [((spot + 2, 1, wSign) : FT)] else []) := ⟨_, rfl⟩
  obtain ⟨X4, e4⟩ : ∃ x, x = X3 ++ (if spot ≠ at_ ∧ bk = 1 ∧ way = 1 then [((spot + 2, 4, wWord) : FT)] else []) := ⟨_, rfl⟩
  have eD : dueL size at_ many bk spot way = X4 := by rw [e4, e3, e2, e1]; rfl
  have n1 : X1.length ≤ 1 := by rw [e1]; split <;> simp
  have n2 : X2.length ≤ 2 := by rw [e2, List.length_append]; split <;> simp <;> omega
  have n3 : X3.length ≤ 3 := by rw [e3, List.length_append]; split <;> simp <;> omega
  have n4 : X4.length ≤ 4 := by rw [e4, List.length_append]; split <;> simp <;> omega
  have hL0 : LS fD H (upd H l (.lst [])) l [] := ⟨same_new hl _, hl, [], upd_same, .nil⟩
  have sne : decide (V.int ((spot : Nat) : Int) = V.int ((at_ : Nat) : Int)) = decide (spot = at_) := by
    by_cases c : spot = at_
    · subst c; simp
    · rw [decide_eq_false c, decide_eq_false (fun z => c (by injection z with z; omega))]
  have od : ∀ j : Nat, j ≤ 2 → decide (V.str (oddS bk) = V.str (oddS j)) = decide (bk = j) := fun j hj => by
    rw [dec_str]
    rcases bk with _ | _ | _ | bk
    all_goals first | (rcases j with _ | _ | _ | j) | omega
    all_goals first | omega | (decide +kernel)
  refine ⟨fun σ H1 => σ = [some (.int (size : Nat)), some (.int (at_ : Nat)), some (.int (many : Nat)), some (.str (oddS bk)), some (.int (spot : Nat)), some (.int (way : Nat)), some (.ref l)] ∧ LS fD H H1 l X1, ?_, ?_⟩
  · refine ⟨_, rfl, _, _, rfl, rfl, _, rfl, ?_⟩
    refine ite2 (fun c => ?_) (fun c => ?_)
    · have c' : (120 : Int) < ((size : Nat) : Int) := of_decide_eq_true c
      rw [e1, if_pos (show size > 120 by omega)]
      refine ⟨_, rfl, .inl ⟨rfl, _, SqL.of upd_same⟩, ?_⟩
      refine ⟨_, rfl, _, _, rfl, rfl, by show 3 ≤ sizeLine; decide, fun p hp => ?_⟩
      obtain ⟨ws, hw1, hw2, hw3⟩ := (hL0.new hp (.tup (fD (at_ + 2, 121, wSign)))).push (p := p) (q := (at_ + 2, 121, wSign)) upd_same
      refine ⟨l, ws, .ref p, rfl, rfl, hw1, ?_, rfl, hw3⟩
      rw [hw2, sizeLine_eq]; simp
    · have c' : ¬ (120 : Int) < ((size : Nat) : Int) := of_decide_eq_false (Bool.eq_false_iff.mpr c)
      rw [e1, if_neg (show ¬ size > 120 by omega)]
      exact ⟨rfl, hL0⟩
  rintro σ1 H1 ⟨rfl, hL1⟩
  refine ⟨fun σ H1 => σ = [some (.int (size : Nat)), some (.int (at_ : Nat)), some (.int (many : Nat)), some (.str (oddS bk)), some (.int (spot : Nat)), some (.int (way : Nat)), some (.ref l)] ∧ LS fD H H1 l X2, ?_, ?_⟩
  · refine ⟨_, rfl, _, _, rfl, rfl, _, _, rfl, rfl, _, rfl, ?_⟩
    refine ite2 (fun c => ?_) (fun c => ?_)
    · have c' : (300 : Int) < ((many : Nat) : Int) + 2 := of_decide_eq_true c
      rw [e2, if_pos (show many + 2 > 300 by omega)]
      obtain ⟨us, hus, _⟩ := hL1.2.2
      refine ⟨_, rfl, .inl ⟨rfl, _, SqL.of hus⟩, ?_⟩
      refine ⟨by show 3 ≤ sizeLine; decide, fun p hp => ?_⟩
      obtain ⟨ws, hw1, hw2, hw3⟩ := (hL1.new hp (.tup (fD (301, 1, wSign)))).push (p := p) (q := (301, 1, wSign)) upd_same
      refine ⟨l, ws, .ref p, rfl, rfl, hw1, ?_, rfl, hw3⟩
      rw [hw2, sizeLine_eq]; omega
    · have c' : ¬ (300 : Int) < ((many : Nat) : Int) + 2 := of_decide_eq_false (Bool.eq_false_iff.mpr c)
      rw [e2, if_neg (show ¬ many + 2 > 300 by omega), List.append_nil]
      exact ⟨rfl, hL1⟩
  rintro σ2 H2 ⟨rfl, hL2⟩
  refine ⟨fun σ H1 => σ = [some (.int (size : Nat)), some (.int (at_ : Nat)), some (.int (many : Nat)), some (.str (oddS bk)), some (.int (spot : Nat)), some (.int (way : Nat)), some (.ref l)] ∧ LS fD H H1 l X3, ?_, ?_⟩
  · have no : ¬ (spot ≠ at_ ∧ bk = 2) → LS fD H H2 l X3 := fun c => by
      rw [e3, if_neg c, List.append_nil]
      exact hL2
    refine ⟨_, rfl, _, rfl, rfl, _, rfl, ?_⟩
    rw [sne]
    refine ite2 (fun c => ?_) (fun c => ?_)
    · refine ⟨_, rfl, rfl, _, rfl, ?_⟩
      have := od 2 (Nat.le_refl _)
      rw [show V.str (Str.ofString "~") = V.str (oddS 2) from rfl, this]
      have c' : spot ≠ at_ := by simpa using c
      refine ite2 (fun c2 => ?_) (fun c2 => ?_)
      · have c2' : bk = 2 := of_decide_eq_true c2
        rw [e3, if_pos ⟨c', c2'⟩]
        obtain ⟨us, hus, _⟩ := hL2.2.2
        refine ⟨_, rfl, .inl ⟨rfl, _, SqL.of hus⟩, ?_⟩
        refine ⟨_, rfl, _, _, rfl, rfl, by show 3 ≤ sizeLine; decide, fun p hp => ?_⟩
        obtain ⟨ws, hw1, hw2, hw3⟩ := (hL2.new hp (.tup (fD (spot + 2, 1, wSign)))).push (p := p) (q := (spot + 2, 1, wSign)) upd_same
        refine ⟨l, ws, .ref p, rfl, rfl, hw1, ?_, rfl, hw3⟩
        rw [hw2, sizeLine_eq]; omega
      · exact ⟨rfl, no fun z => c2 (decide_eq_true z.2)⟩
    · exact iteF ⟨rfl, no fun z => c (by simpa using z.1)⟩
  rintro σ3 H3 ⟨rfl, hL3⟩
  refine ⟨fun σ H1 => σ = [some (.int (size : Nat)), some (.int (at_ : Nat)), some (.int (many : Nat)), some (.str (oddS bk)), some (.int (spot : Nat)), some (.int (way : Nat)), some (.ref l)] ∧ LS fD H H1 l X4, ?_, ?_⟩
  · have no : ¬ (spot ≠ at_ ∧ bk = 1 ∧ way = 1) → LS fD H H3 l X4 := fun c => by
      rw [e4, if_neg c, List.append_nil]
      exact hL3
    refine ⟨_, rfl, _, rfl, rfl, _, rfl, ?_⟩
    rw [sne]
    refine ite2 (fun c => ?_) (fun c => ?_)
    · refine ⟨_, rfl, rfl, _, rfl, ?_⟩
      have := od 1 (by omega)
      rw [show V.str (Str.ofString "do ]") = V.str (oddS 1) from rfl, this]
      have c' : spot ≠ at_ := by simpa using c
      refine ite2 (fun c2 => ?_) (fun c2 => ?_)
      · have c2' : bk = 1 := of_decide_eq_true c2
        refine ⟨_, rfl, rfl, _, rfl, ?_⟩
        refine ite2 (fun c3 => ?_) (fun c3 => ?_)
        · have c3' : way = 1 := by
            have := of_decide_eq_true c3
            injection this with this
            omega
          rw [e4, if_pos ⟨c', c2', c3'⟩]
          obtain ⟨us, hus, _⟩ := hL3.2.2
          refine ⟨_, rfl, .inl ⟨rfl, _, SqL.of hus⟩, ?_⟩
          refine ⟨_, rfl, _, _, rfl, rfl, by show 3 ≤ sizeLine; decide, fun p hp => ?_⟩
          obtain ⟨ws, hw1, hw2, hw3⟩ := (hL3.new hp (.tup (fD (spot + 2, 4, wWord)))).push (p := p) (q := (spot + 2, 4, wWord)) upd_same
          refine ⟨l, ws, .ref p, rfl, rfl, hw1, ?_, rfl, hw3⟩
          rw [hw2, sizeLine_eq]; omega
        · refine ⟨rfl, no fun z => c3 (decide_eq_true ?_)⟩
          rw [z.2.2]
          rfl
      · exact iteF ⟨rfl, no fun z => c2 (decide_eq_true z.2.1)⟩
    · exact iteF ⟨rfl, no fun z => c (by simpa using z.1)⟩
  rintro σ4 H4 ⟨rfl, hL4⟩
  obtain ⟨s4, _, us, hus, hA⟩ := hL4
  refine ⟨_, rfl, l, us, X4.map tD, .non, rfl, rfl, SqL.of hus, dpT hA, alike_tD _, depth_tD _, fun e => ?_, fun y ys i v e g1 g2 g3 g4 => ?_⟩
  · have : X4 = [] := List.map_eq_nil_iff.mp e
    exact k _ _ none s4 (by rw [eD]; exact this) rfl
  · obtain ⟨q, hq, p, rfl, hp⟩ := hA.get g2
    cases hX : X4 with
    | nil => rw [hX] at g1; cases g1
    | cons a r =>
      rw [hX, List.map_cons] at g1
      injection g1 with g5 g6
      obtain ⟨z, hz, ez, kz⟩ := min_tD r a
      rw [List.getElem?_map, hq] at g3
      have g7 : tD q = e := Option.some.inj g3
      have : q = z := tD_inj (by rw [g7, g4, ← g5, ← g6, ez])
      subst this
      exact k _ _ (some q) s4 (by rw [eD, hX]; exact ⟨hz, kz⟩) ⟨p, rfl, hp⟩
end
end My
namespace My
open PySem L2 SS
abbrev sLF : Stmt := top 46
theorem PgOk.mono {sc : List W × Option (Nat × Nat)} {E1 E2 : Nat → Nat → Str → Prop} {R1 R2 : Prop} (h : PgOk sc E1 R1) (he : ∀ r c why, E1 r c why → E2 r c why) (hr : R1 → R2) : PgOk sc E2 R2 := by
  obtain ⟨k1, k2, k3, k4, M, h1, h2, h3⟩ := h
  refine ⟨k1, k2, k3, k4, M, h1, h2, ?_⟩
  rcases h3 with ⟨k, a1, a2, a3, a4⟩ | ⟨kM, kN, kC, Sx, t, a1, a2, a3, a4, a5, a6⟩
  · exact .inl ⟨k, a1, a2, fun p hp => he _ _ _ (a3 p hp), fun z => hr (a4 z)⟩
  · refine .inr ⟨kM, kN, kC, Sx, t, a1, a2, a3, a4, a5, ?_⟩
    rcases a6 with ⟨q1, q2, b1, b2, b3, b4, b5⟩ | ⟨b1, p, b2, b3⟩ | ⟨q, p, r, b1, b2⟩
    · exact .inl ⟨q1, q2, b1, b2, b3, fun p hp => he _ _ _ (b4 p hp), fun z => hr (b5 z)⟩
    · exact .inr (.inl ⟨b1, p, b2, he _ _ _ b3⟩)
    · exact .inr (.inr ⟨q, p, r, b1, he _ _ _ b2⟩)
abbrev nSome : Str := Str.ofString "some"
def pgName : Nat → Str
  | 0 => Str.empty
  | _ => nSome
/-- what the law's own test tells: none, or page, row, column, why -/
def FaultV (nm : Str) (H : Hp) (v : V) : Option FT → Prop
  | none => v = .non
  | some e => ∃ p, v = .ref p ∧ H p = some (.tup (.str nm :: fD e))
/-- the first fault of these rows, by words or by Page -/
def Told (rs : List Str) (way : Nat) (d : Option FT) : Prop :=
  (way = 0 ∧ d = (scan isWord (rs.map tl)).2.map fun p => (p.1, p.2, wSign)) ∨ (way = 1 ∧ PgOk (scan isWord (rs.map tl)) (fun r c why => d = some (r, c, why)) (d = none))
section
variable {P : Program} {w : World} {K : PySem.W.Frag} {mg : Str → Option Value} {base : Heap} {S CF fI fS C CP fF fK : Addr}
def spLF : Sp := fun vs H Q _ => ∃ (z : Str) (rs : List Str) (way : Nat) (d : Option FT), vs = [.str z, .int (way : Nat)] ∧ Fits z rs ∧ rs ≠ [] ∧ ScOk (scan isWord (rs.map tl)) ∧ Told rs way d ∧
  ∀ v H', Same H H' → FaultV (pgName way) H' v d → Q v H'
theorem scLF : FnScope ["_law_text", "_law_way", "_law_found", "e"] ["_law_text", "_law_way"] (defScope sLF) := ⟨rfl, rfl, rfl, by decide +kernel, rfl, by decide +kernel, by decide +kernel⟩
theorem c_lf (TE : TxE K mg S CF fI fS) (D : Dn K mg "_law_fault" sLF) (G : Cc P w K mg base (L2.CX P w) 7 "words_of" (spWordsOf CF)) {fp : Addr} {fdp : FuncData} (MP : Mk K CP fp) (gP : mg "Page" = some (.ref CP))
    (GP : FnOk P w K mg base (L2.CX P w) 16 fp fdp ["self", "name", "text"] (spPg CF CP)) (bP : Binds K fdp ["self", "name", "text"] []) : C0 P w K mg base 18 "_law_fault" spLF := by
  obtain ⟨f, fd, F, m⟩ := D.ex
  obtain ⟨fw, fdw, psw, Fw, mw, kw, bw⟩ := G.ex
  refine ⟨f, fd, ["_law_text", "_law_way"], F.ok scLF (fun vs H Q E h => ?_) (fun cdv A outer s H vs Q E hr h => ?_), m, F.kp, F.binds (ps := ["_law_text", "_law_way"]) fun _ _ _ _ _ _ us hl => match us, hl with | [_, _], _ => rfl⟩
  · obtain ⟨z, rs, way, d, rfl, _⟩ := h
    rfl
  obtain ⟨z, rs, way, d, rfl, hF, hne, hsc, hT, k⟩ := h
  refine ⟨_, pss_cons (ps_set (i := 2) scLF.nd rfl (Or.inl rfl) pe_non) <|
    pss_cons (ps_try_as (i := 3) (Wout := fun _ _ _ _ => False) rfl rfl scLF.nd rfl rfl ⟨rfl, by decide, Or.inl TE.gC⟩ takes0
      (fun W pn xe tk _ => pss_one (ps_if (pt_cmpR op_eq (pv 1) pe_int (nomark _))
        (pss_one (ps_expr (pe_callS Fw (hr.mono (by decide)) rfl mw kw bw (fun σ => passAt tk σ) (pa_cons (pv 0) pa_nil))))
        (pss_one (ps_expr (pe_makeS MP GP (hr.mono (by decide)) rfl gP bP (fun σ => passAt tk σ) (pa_cons pe_str (pa_cons (pv 0) pa_nil)))))))
      (fun a oe cls d pn hz hf => pss_one (ps_set (i := 2) scLF.nd rfl (Or.inl rfl) (pe_tup (pa_cons (pe_xf TE.xf TE.n1 hz hf (pv 3)) (pa_cons (pe_xf TE.xf TE.n2 hz hf (pv 3)) (pa_cons (pe_xf TE.xf TE.n3 hz hf (pv 3)) (pa_cons (pe_xf TE.xf TE.n4 hz hf (pv 3)) pa_nil)))))))) <|
    pss_one (ps_ret (pv 2)), ?_⟩
  have suite : ∀ (nm : Str) (e : FT) (dd : Addr) (H1 : Hp) (n : Str → Nat → Prop), Same H H1 → H1 dd = some (.xd (fsF nm e.2.2 (e.1 : Nat) (e.2.1 : Nat))) → pgName way = nm → d = some e → ∀ p, H1 p = none → Q (.ref p) (upd H1 p (.tup [.str nm, .int (e.1 : Nat), .int (e.2.1 : Nat), .str e.2.2])) := fun nm e dd H1 _ s1 hx en ed p hp => by
    refine k _ _ (s1.trans (same_new hp _)) ?_
    rw [ed, en]
    exact ⟨p, rfl, upd_same⟩
  refine ⟨_, rfl, rfl, _, rfl, ?_⟩
  rcases hT with ⟨rfl, ed⟩ | ⟨rfl, hP⟩
  · refine iteT ⟨_, rfl, z, rs, rfl, hF, fun hn H' v s1 => ?_, fun r c e => ⟨(hsc.st _ e).1, (hsc.st _ e).2, fun dd H' s1 hx => ?_⟩⟩
    · refine ⟨_, rfl, k _ _ s1 ?_⟩
      rw [ed, hn]
      rfl
    · have ed2 : d = some (r, c, wSign) := by rw [ed, e]; rfl
      refine ⟨true, TE.te, fun _ a ha => ?_, fun q => nomatch q⟩
      refine ⟨_, rfl, rfl, rfl, dd, _, _, rfl, hx, rfl, _, rfl, rfl, rfl, dd, _, _, rfl, hx, rfl, _, rfl, rfl, rfl, dd, _, _, rfl, hx, rfl, _, rfl, rfl, rfl, dd, _, _, rfl, hx, rfl, by show 4 ≤ sizeLine; decide, fun p hp => ?_⟩
      refine ⟨_, rfl, ?_⟩
      exact suite Str.empty (r, c, wSign) dd H' (fun _ _ => True) s1 hx rfl ed2 p hp
  · refine iteF ⟨_, rfl, fun x dx hx hdx hne2 => ?_⟩
    have s1 : Same H (upd (upd H dx (.own x)) x (.ins CP dx [])) := (same_new hdx _).trans (same_new (by rw [upd_ne hne2.symm]; exact hx) _)
    refine ⟨H, x, dx, nSome, z, rs, rfl, s1, hx, upd_same, by decide +kernel, hF, hne, hsc, hP.mono (fun r c why ed dd H' s2 hd => ?_) fun ed H' s2 => ⟨rfl, ?_⟩⟩
    · refine ⟨true, TE.te, fun _ a ha => ?_, fun q => nomatch q⟩
      refine ⟨_, rfl, rfl, rfl, dd, _, _, rfl, hd, rfl, _, rfl, rfl, rfl, dd, _, _, rfl, hd, rfl, _, rfl, rfl, rfl, dd, _, _, rfl, hd, rfl, _, rfl, rfl, rfl, dd, _, _, rfl, hd, rfl, by show 4 ≤ sizeLine; decide, fun p hp => ?_⟩
      refine ⟨_, rfl, ?_⟩
      exact suite nSome (r, c, why) dd H' (fun _ _ => True) s2 hd rfl ed p hp
    · refine ⟨_, rfl, k _ _ s2 ?_⟩
      rw [ed]
      rfl
end
end My
namespace My
open PySem L2 SS
abbrev sTR : Stmt := top 49
section
variable {P : Program} {w : World} {K : PySem.W.Frag} {mg : Str → Option Value} {base : Heap} {S CF fI fS C CP fF fK : Addr}
def spTR : Sp := fun vs H Q _ => ∃ (z : Str) (rs : List Str) (way : Nat) (v : V) (d : Option FT), vs = [.str z, .int (way : Nat), v] ∧ way ≤ 1 ∧ DueV H v d ∧ Fits z rs ∧ rs ≠ [] ∧ ScOk (scan isWord (rs.map tl)) ∧ Told rs way d ∧ (∀ e, d = some e → PyData.strOk e.2.2 = true) ∧
  ∀ H', Same H H' → Q (.bl true) H'
theorem scTR : FnScope ["_law_text", "_law_way", "_law_due_here"] ["_law_text", "_law_way", "_law_due_here"] (defScope sTR) := ⟨rfl, rfl, rfl, by decide +kernel, rfl, by decide +kernel, by decide +kernel⟩
def tD4 (nm : Str) (q : FT) : PyData := .tuple [.str nm, .int (q.1 : Nat), .int (q.2.1 : Nat), .str q.2.2]
theorem eqv_tD4 (nm : Str) (q : FT) : PyData.eqv (tD4 nm q) (tD4 nm q) = true := by
  refine PySem.W.eqv_refl_alike _ ?_
  unfold tD4
  simp only [PySem.W.alike, PySem.W.alikeAll, Bool.and_self]
theorem shp {nm : Str} {q : FT} (h1 : PyData.strOk nm = true) (h2 : PyData.strOk q.2.2 = true) : SeqAt.shaped (tD4 nm q) = true := by
  unfold tD4
  refine Bool.and_eq_true_iff.mpr ⟨?_, ?_⟩
  · simp [PyData.canLay0, PyData.canLayAll0, h1, h2]
  · exact decide_eq_true (show (1 : Nat) ≤ 64 by decide)
theorem dp4 {H : Hp} {nm : Str} {q : FT} {p : Addr} (h : H p = some (.tup (.str nm :: fD q))) : Dp K H (.ref p) (tD4 nm q) :=
  .tup (SqT.of h) (.cons (.str _) (.cons (.int _) (.cons (.int _) (.cons (.str _) .nil))))
theorem c_tr (D : Dn K mg "_law_told_right" sTR) (G : C0 P w K mg base 18 "_law_fault" spLF) : C0 P w K mg base 19 "_law_told_right" spTR := by
  obtain ⟨f, fd, F, m⟩ := D.ex
  refine ⟨f, fd, ["_law_text", "_law_way", "_law_due_here"], F.ok scTR (fun vs H Q E h => ?_) (fun cdv A outer s H vs Q E hr h => ?_), m, F.kp, F.binds (ps := ["_law_text", "_law_way", "_law_due_here"]) fun _ _ _ _ _ _ us hl => match us, hl with | [_, _, _], _ => rfl⟩
  · obtain ⟨z, rs, way, v, d, rfl, _⟩ := h
    rfl
  obtain ⟨z, rs, way, v, d, rfl, hw, hv, hF, hne, hsc, hT, hok, k⟩ := h
  refine ⟨_, pss_cons (ps_if (pt_cmpR op_isN (pv 2) pe_non (nomark _)) (pss_one (ps_ret (pe_cmpR op_isN (pe_cc G hr (by decide) pass0 (pa_cons (pv 0) (pa_cons (pv 1) pa_nil))) pe_non (nomark _)))) pss_nil) <|
    pss_one (ps_ret (pe_cmpR (op_eqD hr.units) (pe_cc G hr (by decide) pass0 (pa_cons (pv 0) (pa_cons (pv 1) pa_nil))) (pe_op op_catT (pe_tup (pa_cons (pe_ix ix_list (pe_lst (pa_cons pe_str (pa_cons pe_str pa_nil))) (pv 1) (fun _ _ => rfl)) pa_nil)) (pv 2)) rfl)), ?_⟩
  refine ⟨_, rfl, rfl, _, rfl, ?_⟩
  cases d with
  | none =>
    obtain rfl : v = .non := hv
    refine iteT ⟨_, rfl, _, rfl, z, rs, way, none, rfl, hF, hne, hsc, hT, fun u H' s1 hu => ?_⟩
    obtain rfl : u = .non := hu
    exact ⟨rfl, k _ s1⟩
  | some e =>
    obtain ⟨p0, rfl, hp0⟩ := hv
    refine iteF ⟨_, rfl, _, rfl, z, rs, way, some e, rfl, hF, hne, hsc, hT, fun u H1 s1 hu => ?_⟩
    obtain ⟨p, rfl, hp⟩ := hu
    have hat : ∃ x : Str, atI [V.str (Str.ofString ""), V.str (Str.ofString "some")] ((way : Nat) : Int) = some (.str x) ∧ x = pgName way := by
      rcases way with _ | _ | way
      · exact ⟨_, atI_nat rfl, by decide +kernel⟩
      · exact ⟨_, atI_nat rfl, rfl⟩
      · omega
    obtain ⟨x, hx, ex⟩ := hat
    have hpn : PyData.strOk (pgName way) = true := by
      rcases way with _ | way
      · decide +kernel
      · show PyData.strOk nSome = true
        decide +kernel
    refine ⟨by decide, fun l hl => ?_⟩
    have s2 : Same H1 (upd H1 l (.lst [V.str (Str.ofString ""), V.str (Str.ofString "some")])) := same_new hl _
    refine ⟨_, rfl, l, _, _, _, rfl, rfl, SqL.of upd_same, hx, ?_⟩
    refine ⟨by show 1 ≤ sizeLine; decide, fun q hq => ?_⟩
    have s3 := s2.trans (same_new hq (.tup [.str x]))
    refine ⟨_, rfl, q, p0, _, _, rfl, rfl, SqT.of upd_same, SqT.of (s3 _ _ (s1 _ _ hp0)), by simp, by show 1 + 3 ≤ sizeLine; decide, ?_, fun _ r hr2 => ?_⟩
    · intro z; cases z
    have s4 := s3.trans (same_new hr2 (.tup ([V.str x] ++ fD e)))
    refine ⟨tD4 (pgName way) e, tD4 (pgName way) e, dp4 (s4 _ _ hp), dp4 (by rw [upd_same, ex]; rfl), shp hpn (hok _ rfl), shp hpn (hok _ rfl), ?_⟩
    rw [eqv_tD4]
    exact k _ (s1.trans s4)
end
end My
namespace My
open PySem L2 SS
/-! ### the rows of the law, and what is read of each -/
abbrev oW (l : T) : Out := outOf isWord l
def cHdr : T := tl "kind A under Thing method m :"
def cFoot : T := tl "end end"
def cSayX : T := tl "say 'x"
def cDoR : T := tl "do ]"
def wHdr : List (T × Nat) := [(tl "kind", 1), (tl "A", 6), (tl "under", 8), (tl "Thing", 14), (tl "method", 20), (tl "m", 27), (tl ":", 29)]
theorem o_hdr : oW cHdr = (wHdr, none) := by decide +kernel
theorem o_foot : oW cFoot = ([(tEnd, 1), (tEnd, 5)], none) := by decide +kernel
theorem o_do1 : oW cDo1 = ([(tDo, 1), (t1, 4)], none) := by decide +kernel
theorem o_sayx : oW cSayX = ([(tSay, 1), (tQx, 5)], none) := by decide +kernel
theorem o_dor : oW cDoR = ([(tDo, 1), (tRb, 4)], none) := by decide +kernel
theorem o_til : oW [126] = ([], some 1) := by decide +kernel
theorem o_nil : oW [] = ([], none) := by decide +kernel
def w24 : List (T × Nat) := (List.range 24).flatMap fun i => [(tDo, 5 * i + 1), (t1, 5 * i + 4)]
theorem o_long1 : ∀ k : Fin 21, 3 ≤ k.val → oW (cL24 ++ cT1.take k.val) = (w24, some 121) := by decide +kernel
theorem o_long2 : ∀ k : Fin 21, 3 ≤ k.val → oW (cL24 ++ cT2.take k.val) = (w24, some 121) := by decide +kernel
theorem stms_n : ∀ n : Nat, Stms (List.replicate n [tDo, t1]).flatten
  | 0 => .nil
  | n + 1 => by
    rw [List.replicate_succ, List.flatten_cons]
    exact .plain (.inl rfl) (.inl rfl) (stms_n n)
theorem stms_24 : Stms (texts w24) := by
  have : texts w24 = (List.replicate 24 [tDo, t1]).flatten := by decide +kernel
  rw [this]
  exact stms_n 24
/-- rows whose words are all words: only a row too long can be wrong -/
theorem out_plain {l : T} (h : ∀ q ∈ rowWords l, isWord q.1 = true) (hc : ∀ q ∈ rowWords l, q.2 < 121) : oW l = (rowWords l, if l.length > 120 then some 121 else none) := by
  have e : (rowWords l).filter (fun q => !isWord q.1) = [] := by
    rw [List.filter_eq_nil_iff]
    intro q hq
    rw [h q hq]
    decide
  show outOf isWord l = _
  unfold outOf wrongCol cols
  rw [e]
  by_cases c : l.length > 120
  · rw [if_pos c, if_pos c]
    show ((rowWords l).filter (fun q => decide (q.2 < 121)), some 121) = _
    rw [List.filter_eq_self.mpr (fun q hq => decide_eq_true (hc q hq))]
  · rw [if_neg c, if_neg c]
    rfl
theorem isW_core : isWord tDo = true ∧ isWord t1 = true ∧ isWord tSay = true ∧ isWord tSelf = true ∧ isWord tX = true ∧ isWord tSet = true ∧ isWord tQabc = true ∧ isWord SS.tRet = true ∧ isWord tNone = true := by decide +kernel
theorem core_words {c : T} (hc : c = cDo1 ∨ c = cSay ∨ c = cAbc ∨ c = cRet) (h t : Nat) : ∃ ps, rowWords (List.replicate h 32 ++ c ++ List.replicate t 32) = ps ∧ Stms (texts ps) ∧ (∀ q ∈ ps, isWord q.1 = true) ∧ ∀ q ∈ ps, q.2 < h + 10 := by
  obtain ⟨w1, w2, w3, w4, w5, w6, w7, w8, w9⟩ := isW_core
  have e0 : ∀ c : T, rowWords (List.replicate h 32 ++ c ++ List.replicate t 32) = rw_ [] (1 + h) (c ++ List.replicate t 32) := fun c => by
    unfold rowWords
    rw [List.append_assoc, rw_blanks]
  rw [e0]
  rcases hc with rfl | rfl | rfl | rfl
  · refine ⟨[(tDo, 1 + h), (t1, 1 + h + tDo.length + 1)], (show rw_ [] (1 + h) (tDo ++ 32 :: (t1 ++ List.replicate t 32)) = _ from by rw [rw_word1 (by decide) (by decide), rw_wordEnd (by decide) (by decide)]), .plain (.inl rfl) (.inl rfl) .nil, ?_, ?_⟩
    · intro q hq
      simp only [List.mem_cons, List.not_mem_nil, or_false] at hq
      rcases hq with rfl | rfl
      · exact w1
      · exact w2
    · intro q hq
      simp only [List.mem_cons, List.not_mem_nil, or_false] at hq
      rcases hq with rfl | rfl
      · show 1 + h < h + 10; omega
      · show 1 + h + 2 + 1 < h + 10; omega
  · refine ⟨[(tSay, 1 + h), (tSelf, 1 + h + tSay.length + 1)], (show rw_ [] (1 + h) (tSay ++ 32 :: (tSelf ++ List.replicate t 32)) = _ from by rw [rw_word1 (by decide) (by decide), rw_wordEnd (by decide) (by decide)]), .plain (.inr (.inl rfl)) (.inr (.inr (.inr (.inl rfl)))) .nil, ?_, ?_⟩
    · intro q hq
      simp only [List.mem_cons, List.not_mem_nil, or_false] at hq
      rcases hq with rfl | rfl
      · exact w3
      · exact w4
    · intro q hq
      simp only [List.mem_cons, List.not_mem_nil, or_false] at hq
      rcases hq with rfl | rfl
      · show 1 + h < h + 10; omega
      · show 1 + h + 3 + 1 < h + 10; omega
  · refine ⟨[(tX, 1 + h), (tSet, 1 + h + tX.length + 1), (tQabc, 1 + h + tX.length + 1 + tSet.length + 1)], (show rw_ [] (1 + h) (tX ++ 32 :: (tSet ++ 32 :: (tQabc ++ List.replicate t 32))) = _ from by rw [rw_word1 (by decide) (by decide), rw_word1 (by decide) (by decide), rw_wordEnd (by decide) (by decide)]), .set (.inr (.inr (.inl rfl))) .nil, ?_, ?_⟩
    · intro q hq
      simp only [List.mem_cons, List.not_mem_nil, or_false] at hq
      rcases hq with rfl | rfl | rfl
      · exact w5
      · exact w6
      · exact w7
    · intro q hq
      simp only [List.mem_cons, List.not_mem_nil, or_false] at hq
      rcases hq with rfl | rfl | rfl
      · show 1 + h < h + 10; omega
      · show 1 + h + 1 + 1 < h + 10; omega
      · show 1 + h + 1 + 1 + 2 + 1 < h + 10; omega
  · refine ⟨[(SS.tRet, 1 + h), (tNone, 1 + h + SS.tRet.length + 1)], (show rw_ [] (1 + h) (SS.tRet ++ 32 :: (tNone ++ List.replicate t 32)) = _ from by rw [rw_word1 (by decide) (by decide), rw_wordEnd (by decide) (by decide)]), .plain (.inr (.inr rfl)) (.inr (.inr (.inr (.inr rfl)))) .nil, ?_, ?_⟩
    · intro q hq
      simp only [List.mem_cons, List.not_mem_nil, or_false] at hq
      rcases hq with rfl | rfl
      · exact w8
      · exact w9
    · intro q hq
      simp only [List.mem_cons, List.not_mem_nil, or_false] at hq
      rcases hq with rfl | rfl
      · show 1 + h < h + 10; omega
      · show 1 + h + 6 + 1 < h + 10; omega
/-- the row of many signs -/
theorem out_special {size : Nat} {l : T} (h : Special size l) (h1 : 100 ≤ size) (h2 : size ≤ 140) : Stms (texts (oW l).1) ∧ (oW l).2 = (if (if size > 120 then 1 else 0) = 1 then some 121 else none) ∧ l.length = size := by
  have e : (if (if size > 120 then 1 else 0) = 1 then some 121 else none) = (if size > 120 then some 121 else none) := by
    by_cases c : size > 120
    · simp only [c, if_true]
    · simp only [c, if_false]
      rfl
  rw [e]
  rcases h with rfl | ⟨h3, t, ht, rfl⟩ | ⟨hh, c, h60, hc, rfl⟩
  · have e1 : rowWords (List.replicate size 32) = [] := rw_tail [] 1 size
    have e2 := out_plain (l := List.replicate size 32) (by rw [e1]; simp) (by rw [e1]; simp)
    rw [e2, e1, List.length_replicate]
    exact ⟨.nil, rfl, rfl⟩
  · have l24 : cL24.length = 120 := by decide +kernel
    have lt : t.length = 20 := by rcases ht with rfl | rfl <;> decide +kernel
    have eo : oW (cL24 ++ t.take (size - 120)) = (w24, some 121) := by
      rcases ht with rfl | rfl
      · exact o_long1 ⟨size - 120, by omega⟩ (by show 3 ≤ size - 120; omega)
      · exact o_long2 ⟨size - 120, by omega⟩ (by show 3 ≤ size - 120; omega)
    rw [eo, if_pos (by omega)]
    refine ⟨stms_24, rfl, ?_⟩
    rw [List.length_append, List.length_take, l24, lt]
    omega
  · obtain ⟨ps, e1, e2, e3, e4⟩ := core_words hc hh (size - hh - c.length)
    have cl : c.length ≤ 11 := by rcases hc with rfl | rfl | rfl | rfl <;> decide
    have el : (List.replicate hh 32 ++ c ++ List.replicate (size - hh - c.length) 32).length = size := by
      rw [List.length_append, List.length_append, List.length_replicate, List.length_replicate]
      omega
    have e5 := out_plain (l := List.replicate hh 32 ++ c ++ List.replicate (size - hh - c.length) 32) (by rw [e1]; exact e3) (by rw [e1]; intro q hq; have := e4 q hq; omega)
    rw [e5, e1, el]
    exact ⟨e2, rfl, rfl⟩
end My
namespace My
open PySem L2 SS
theorem scanO_append : ∀ (a b : List Out) (r : Nat), scanO r (a ++ b) = match (scanO r a).2 with
    | some p => ((scanO r a).1, some p)
    | none => ((scanO r a).1 ++ (scanO (r + a.length) b).1, (scanO (r + a.length) b).2)
  | [], b, r => by
    show scanO r b = ([] ++ (scanO (r + 0) b).1, (scanO (r + 0) b).2)
    rw [List.nil_append, Nat.add_zero]
  | o :: a, b, r => by
    rw [List.cons_append, scanO, scanO]
    cases e : o.2 with
    | some c => rfl
    | none =>
      have ih := scanO_append a b (r + 1)
      rw [show r + (o :: a).length = r + 1 + a.length by rw [List.length_cons]; omega]
      show (lay r o.1 ++ (scanO (r + 1) (a ++ b)).1, (scanO (r + 1) (a ++ b)).2) = match (scanO (r + 1) a).2 with
        | some p => (lay r o.1 ++ (scanO (r + 1) a).1, some p)
        | none => ((lay r o.1 ++ (scanO (r + 1) a).1) ++ (scanO (r + 1 + a.length) b).1, (scanO (r + 1 + a.length) b).2)
      rw [ih]
      cases (scanO (r + 1) a).2 with
      | some p => rfl
      | none =>
        show (lay r o.1 ++ ((scanO (r + 1) a).1 ++ (scanO (r + 1 + a.length) b).1), _) = _
        rw [List.append_assoc]
abbrev wFoot : List (T × Nat) := [(tEnd, 1), (tEnd, 5)]
theorem scan_few {R : List T} (h : R.length ≤ 298) {O : List W × Option (Nat × Nat)} (hO : O = scanO 2 (R.map oW)) :
    scan isWord (cHdr :: (R ++ [cFoot])) = (lay 1 wHdr ++ (match O.2 with | some _ => O.1 | none => O.1 ++ lay (2 + R.length) wFoot), O.2) := by
  have e1 : (cHdr :: (R ++ [cFoot])).take 300 = cHdr :: (R ++ [cFoot]) := List.take_of_length_le (by rw [List.length_cons, List.length_append]; simp; omega)
  have e2 : scanGo isWord 1 (cHdr :: (R ++ [cFoot])) = (lay 1 wHdr ++ (match O.2 with | some _ => O.1 | none => O.1 ++ lay (2 + R.length) wFoot), O.2) := by
    rw [scanO_eq, List.map_cons, List.map_append, scanO]
    have eh : outOf isWord cHdr = (wHdr, none) := o_hdr
    rw [eh]
    show (lay 1 wHdr ++ (scanO 2 (R.map oW ++ [cFoot].map oW)).1, (scanO 2 (R.map oW ++ [cFoot].map oW)).2) = _
    rw [scanO_append, ← hO, List.map_cons, o_foot, List.length_map]
    cases O.2 with
    | some p => rfl
    | none =>
      show (lay 1 wHdr ++ (O.1 ++ (lay (2 + R.length) wFoot ++ [])), none) = _
      rw [List.append_nil]
  have e3 : ¬ (cHdr :: (R ++ [cFoot])).length > 300 := by rw [List.length_cons, List.length_append]; simp; omega
  unfold scan
  rw [e1, e2]
  cases O.2 with
  | some p => rfl
  | none =>
    show (_, if (cHdr :: (R ++ [cFoot])).length > 300 then some (301, 1) else none) = _
    rw [if_neg e3]
theorem scan_many {R : List T} (h : 299 ≤ R.length) {O : List W × Option (Nat × Nat)} (hO : O = scanO 2 ((R.take 299).map oW)) :
    scan isWord (cHdr :: (R ++ [cFoot])) = (lay 1 wHdr ++ O.1, match O.2 with | some p => some p | none => some (301, 1)) := by
  have e1 : (cHdr :: (R ++ [cFoot])).take 300 = cHdr :: R.take 299 := by
    rw [List.take_succ_cons, List.take_append_of_le_length h]
  have e2 : scanGo isWord 1 (cHdr :: R.take 299) = (lay 1 wHdr ++ O.1, O.2) := by
    rw [scanO_eq, List.map_cons, scanO]
    have eh : outOf isWord cHdr = (wHdr, none) := o_hdr
    rw [eh, hO]
  have e3 : (cHdr :: (R ++ [cFoot])).length > 300 := by rw [List.length_cons, List.length_append]; simp; omega
  unfold scan
  rw [e1, e2]
  cases O.2 with
  | some p => rfl
  | none =>
    show (_, if (cHdr :: (R ++ [cFoot])).length > 300 then some (301, 1) else none) = _
    rw [if_pos e3]
/-! ### the first fault -/
theorem mem_due {size at_ many bk spot way : Nat} {y : FT} : y ∈ dueL size at_ many bk spot way ↔ (size > 120 ∧ y = (at_ + 2, 121, wSign)) ∨ (many + 2 > 300 ∧ y = (301, 1, wSign)) ∨ (spot ≠ at_ ∧ bk = 2 ∧ y = (spot + 2, 1, wSign)) ∨ (spot ≠ at_ ∧ bk = 1 ∧ way = 1 ∧ y = (spot + 2, 4, wWord)) := by
  have m : ∀ (c : Prop) [Decidable c] (a : FT), y ∈ (if c then [a] else []) ↔ c ∧ y = a := fun c _ a => by
    by_cases h : c
    · rw [if_pos h]; simp [h]
    · rw [if_neg h]; simp [h]
  unfold dueL
  rw [List.mem_append, List.mem_append, List.mem_append, m, m, m, m]
  constructor
  · rintro (((h | h) | h) | h)
    · exact .inl h
    · exact .inr (.inl h)
    · exact .inr (.inr (.inl ⟨h.1.1, h.1.2, h.2⟩))
    · exact .inr (.inr (.inr ⟨h.1.1, h.1.2.1, h.1.2.2, h.2⟩))
  · rintro (h | h | h | h)
    · exact .inl (.inl (.inl h))
    · exact .inl (.inl (.inr h))
    · exact .inl (.inr ⟨⟨h.1, h.2.1⟩, h.2.2⟩)
    · exact .inr ⟨⟨h.1, h.2.1, h.2.2.1⟩, h.2.2.2⟩
theorem due_one {size at_ many bk spot way : Nat} {a b : Option FT} (ha : DueOf (dueL size at_ many bk spot way) a) (hb : DueOf (dueL size at_ many bk spot way) b) : a = b := by
  cases a with
  | none =>
    cases b with
    | none => rfl
    | some y =>
      have h : dueL size at_ many bk spot way = [] := ha
      have h2 := hb.1
      rw [h] at h2
      simp at h2
  | some x =>
    cases b with
    | none =>
      have h : dueL size at_ many bk spot way = [] := hb
      have h2 := ha.1
      rw [h] at h2
      simp at h2
    | some y =>
      have k1 := ha.2 y hb.1
      have k2 := hb.2 x ha.1
      have mx := mem_due.mp ha.1
      have my := mem_due.mp hb.1
      have e : x = y := by
        rcases mx with ⟨_, rfl⟩ | ⟨_, rfl⟩ | ⟨_, _, rfl⟩ | ⟨_, _, _, rfl⟩ <;> rcases my with ⟨_, rfl⟩ | ⟨_, rfl⟩ | ⟨_, _, rfl⟩ | ⟨_, _, _, rfl⟩ <;>
          first
            | rfl
            | (exfalso; unfold kle at k1 k2; simp only at k1 k2; omega)
            | (unfold kle at k1 k2; simp only at k1 k2; congr 1; omega)
      rw [e]
theorem due_nil {size at_ many bk spot way : Nat} (h1 : ¬ size > 120) (h2 : ¬ many + 2 > 300) (h3 : ¬ (spot ≠ at_ ∧ bk = 2)) (h4 : ¬ (spot ≠ at_ ∧ bk = 1 ∧ way = 1)) : DueOf (dueL size at_ many bk spot way) none := by
  show dueL size at_ many bk spot way = []
  unfold dueL
  rw [if_neg h1, if_neg h2, if_neg h3, if_neg h4]
  rfl
theorem due_some {size at_ many bk spot way : Nat} {x : FT} (hx : (size > 120 ∧ x = (at_ + 2, 121, wSign)) ∨ (many + 2 > 300 ∧ x = (301, 1, wSign)) ∨ (spot ≠ at_ ∧ bk = 2 ∧ x = (spot + 2, 1, wSign)) ∨ (spot ≠ at_ ∧ bk = 1 ∧ way = 1 ∧ x = (spot + 2, 4, wWord)))
    (h1 : size > 120 → kle x (at_ + 2, 121, wSign)) (h2 : many + 2 > 300 → kle x (301, 1, wSign)) (h3 : spot ≠ at_ → bk = 2 → kle x (spot + 2, 1, wSign)) (h4 : spot ≠ at_ → bk = 1 → way = 1 → kle x (spot + 2, 4, wWord)) : DueOf (dueL size at_ many bk spot way) (some x) := by
  refine ⟨mem_due.mpr hx, fun y hy => ?_⟩
  rcases mem_due.mp hy with ⟨a, rfl⟩ | ⟨a, rfl⟩ | ⟨a, b, rfl⟩ | ⟨a, b, c, rfl⟩
  · exact h1 a
  · exact h2 a
  · exact h3 a b
  · exact h4 a b c
section
variable {size at_ many bk spot way A B aw n : Nat}
/-- what the scan stops at -/
def stopAt (A B aw bk n many : Nat) : Option (Nat × Nat) := match sgn A B aw bk 2 n with
  | some p => some p
  | none => if many + 2 > 300 then some (301, 1) else none
theorem due_sign (hA : A = at_ + 2) (hB0 : spot = at_ → B = 0) (hB1 : spot ≠ at_ → B = spot + 2) (haw : aw = 1 ↔ size > 120) (hn : n = min many 299) (h1 : at_ < many) (h2 : spot < many) (hw : way = 0 ∨ wrd A B aw bk 2 n = none) :
    DueOf (dueL size at_ many bk spot way) ((stopAt A B aw bk n many).map fun p => (p.1, p.2, wSign)) := by
  have hw2 : way = 1 → ¬ (bk = 1 ∧ 2 ≤ B ∧ B < 2 + n ∧ ((aw = 1 ∧ 2 ≤ A) → B < A)) := fun e c => by
    rcases hw with h | h
    · omega
    · unfold wrd at h
      rw [if_pos c] at h
      cases h
  by_cases hs : spot = at_
  · have b0 := hB0 hs
    unfold stopAt sgn
    by_cases c1 : aw = 1 ∧ A < 2 + n
    · rw [if_pos (by omega)]
      refine due_some (.inl ⟨haw.mp c1.1, by rw [hA]⟩) (fun _ => ?_) (fun _ => ?_) (fun a => absurd hs a) (fun a => absurd hs a)
      · exact .inr ⟨hA, Nat.le_refl _⟩
      · unfold kle; simp only; omega
    · rw [if_neg (by omega), if_neg (by omega)]
      show DueOf _ ((if many + 2 > 300 then some (301, 1) else none).map fun p : Nat × Nat => ((p.1, p.2, wSign) : FT))
      by_cases c2 : many + 2 > 300
      · rw [if_pos c2]
        refine due_some (.inr (.inl ⟨c2, rfl⟩)) (fun a => ?_) (fun _ => .inr ⟨rfl, Nat.le_refl _⟩) (fun a => absurd hs a) (fun a => absurd hs a)
        have := haw.mpr a
        unfold kle; simp only; omega
      · rw [if_neg c2]
        refine due_nil (fun a => ?_) c2 (fun a => a.1 hs) (fun a => a.1 hs)
        have := haw.mpr a
        omega
  · have b1 := hB1 hs
    unfold stopAt sgn
    by_cases c1 : (aw = 1 ∧ 2 ≤ A ∧ A < 2 + n) ∧ ((bk = 2 ∧ 2 ≤ B ∧ B < 2 + n) → A < B)
    · rw [if_pos c1]
      refine due_some (.inl ⟨haw.mp c1.1.1, by rw [hA]⟩) (fun _ => ?_) (fun _ => ?_) (fun _ b => ?_) (fun _ b c => ?_)
      · exact .inr ⟨hA, Nat.le_refl _⟩
      · unfold kle; simp only; omega
      · unfold kle; simp only; omega
      · have := hw2 c
        unfold kle; simp only; omega
    · rw [if_neg c1]
      by_cases c2 : bk = 2 ∧ 2 ≤ B ∧ B < 2 + n
      · rw [if_pos c2]
        refine due_some (.inr (.inr (.inl ⟨hs, c2.1, by rw [b1]⟩))) (fun a => ?_) (fun _ => ?_) (fun _ b => ?_) (fun _ b c => ?_)
        · have := haw.mpr a
          unfold kle; simp only; omega
        · unfold kle; simp only; omega
        · exact .inr ⟨b1, Nat.le_refl _⟩
        · omega
      · rw [if_neg c2]
        show DueOf _ ((if many + 2 > 300 then some (301, 1) else none).map fun p : Nat × Nat => ((p.1, p.2, wSign) : FT))
        by_cases c3 : many + 2 > 300
        · rw [if_pos c3]
          refine due_some (.inr (.inl ⟨c3, rfl⟩)) (fun a => ?_) (fun _ => .inr ⟨rfl, Nat.le_refl _⟩) (fun _ b => ?_) (fun _ b c => ?_)
          · have := haw.mpr a
            unfold kle; simp only; omega
          · unfold kle; simp only; omega
          · have := hw2 c
            unfold kle; simp only; omega
        · rw [if_neg c3]
          refine due_nil (fun a => ?_) c3 (fun a => ?_) (fun a => ?_)
          · have := haw.mpr a
            omega
          · omega
          · have := hw2 a.2.2
            omega
theorem due_word (hA : A = at_ + 2) (hB0 : spot = at_ → B = 0) (hB1 : spot ≠ at_ → B = spot + 2) (haw : aw = 1 ↔ size > 120) (hn : n = min many 299) (hw : way = 1) {p : Nat × Nat} (h : wrd A B aw bk 2 n = some p) : DueOf (dueL size at_ many bk spot way) (some (p.1, p.2, wWord)) := by
  unfold wrd at h
  by_cases c : bk = 1 ∧ 2 ≤ B ∧ B < 2 + n ∧ ((aw = 1 ∧ 2 ≤ A) → B < A)
  · rw [if_pos c] at h
    obtain rfl := Option.some.inj h
    have hs : spot ≠ at_ := fun e => by have := hB0 e; omega
    have b1 := hB1 hs
    refine due_some (.inr (.inr (.inr ⟨hs, c.1, hw, by rw [b1]⟩))) (fun a => ?_) (fun _ => ?_) (fun _ b => ?_) (fun _ b c => ?_)
    · have := haw.mpr a
      unfold kle; simp only; omega
    · unfold kle; simp only; omega
    · omega
    · exact .inr ⟨b1, Nat.le_refl _⟩
  · rw [if_neg c] at h
    cases h
end
end My
namespace My
open PySem L2 SS
/-! ### the page's words -/
theorem hdr_lay : lay 1 wHdr = [(tl "kind", 1, 1), (tl "A", 1, 6), (tl "under", 1, 8), (tl "Thing", 1, 14), (tl "method", 1, 20), (tl "m", 1, 27), (tl ":", 1, 29)] := rfl
theorem hd_ok : HdOk (tl "kind", 1, 1) (tl "A", 1, 6) (tl "under", 1, 8) (tl "Thing", 1, 14) := ⟨by decide +kernel, by decide +kernel, by decide +kernel, by decide +kernel⟩
theorem hdM : (tl "method" : T) = tMethod ∧ isFree (tl "m") = true ∧ (tl ":" : T) = tColon := ⟨by decide +kernel, by decide +kernel, by decide +kernel⟩
theorem pg_of {X : List W} {st : Option (Nat × Nat)} {d : Option FT}
    (h : (∃ S q p r, X = S ++ (tDo, q) :: (tRb, p) :: r ∧ Stms (S.map (·.1)) ∧ d = some (p.1, p.2, wWord)) ∨ (Stms (X.map (·.1)) ∧ ∃ p, st = some p ∧ d = some (p.1, p.2, wSign)) ∨ (∃ S k, X = S ++ lay k wFoot ∧ Stms (S.map (·.1)) ∧ st = none ∧ d = none)) :
    PgOk (lay 1 wHdr ++ X, st) (fun r c why => d = some (r, c, why)) (d = none) := by
  obtain ⟨m1, m2, m3⟩ := hdM
  rw [hdr_lay]
  refine ⟨(tl "kind", 1, 1), (tl "A", 1, 6), (tl "under", 1, 8), (tl "Thing", 1, 14), (tl "method", 1, 20) :: (tl "m", 1, 27) :: (tl ":", 1, 29) :: X, rfl, hd_ok, .inr ?_⟩
  rcases h with ⟨S, q, p, r, rfl, h2, h3⟩ | ⟨h2, p, h3, h4⟩ | ⟨S, k, rfl, h2, h3, h4⟩
  · exact ⟨(tl "method", 1, 20), (tl "m", 1, 27), (tl ":", 1, 29), S, (tDo, q) :: (tRb, p) :: r, rfl, m1, m2, m3, h2, .inr (.inr ⟨q, p, r, rfl, h3⟩)⟩
  · exact ⟨(tl "method", 1, 20), (tl "m", 1, 27), (tl ":", 1, 29), X, [], by rw [List.append_nil], m1, m2, m3, h2, .inr (.inl ⟨rfl, p, h3, h4⟩)⟩
  · refine ⟨(tl "method", 1, 20), (tl "m", 1, 27), (tl ":", 1, 29), S, lay k wFoot, rfl, m1, m2, m3, h2, .inl ⟨(tEnd, k, 1), (tEnd, k, 5), rfl, rfl, rfl, fun p hp => ?_, fun _ => h4⟩⟩
    have hp' : st = some p := hp
    rw [h3] at hp'
    cases hp'
/-- the row at place i of the page's body -/
def RowIs (size at_ bk spot i : Nat) (l : T) : Prop :=
  if i = at_ then Special size l else if i = spot ∧ bk = 1 then l = cDoR else if i = spot ∧ bk = 2 then l = [126] else l = cDo1 ∨ l = [] ∨ l = cSayX
theorem info_of {size at_ bk spot i : Nat} {l : T} (h : RowIs size at_ bk spot i l) (h1 : 100 ≤ size) (h2 : size ≤ 140) : InfoAt (at_ + 2) (if spot = at_ then 0 else spot + 2) (if size > 120 then 1 else 0) bk (2 + i) (oW l) := by
  unfold RowIs at h
  unfold InfoAt
  by_cases c : i = at_
  · rw [if_pos c] at h
    rw [if_pos (by omega)]
    have := out_special h h1 h2
    exact ⟨this.1, this.2.1⟩
  · rw [if_neg c] at h
    rw [if_neg (by omega)]
    by_cases s : i = spot
    · have e : (if spot = at_ then 0 else spot + 2) = spot + 2 := if_neg (by omega)
      rw [e]
      by_cases b1 : bk = 1
      · rw [if_pos ⟨s, b1⟩] at h
        rw [if_pos ⟨by omega, b1⟩, h]
        exact o_dor
      · rw [if_neg (by omega)] at h ⊢
        by_cases b2 : bk = 2
        · rw [if_pos ⟨s, b2⟩] at h
          rw [if_pos ⟨by omega, b2⟩, h]
          exact o_til
        · rw [if_neg (by omega)] at h ⊢
          rcases h with rfl | rfl | rfl
          · rw [o_do1]; exact ⟨.plain (.inl rfl) (.inl rfl) .nil, rfl⟩
          · rw [o_nil]; exact ⟨.nil, rfl⟩
          · rw [o_sayx]; exact ⟨.plain (.inr (.inl rfl)) (.inr (.inl rfl)) .nil, rfl⟩
    · have e : ¬ 2 + i = (if spot = at_ then 0 else spot + 2) := by
        by_cases q : spot = at_
        · rw [if_pos q]; omega
        · rw [if_neg q]; omega
      rw [if_neg (fun z => s z.1), if_neg (fun z => s z.1)] at h
      rw [if_neg (fun z => e z.1), if_neg (fun z => e z.1)]
      rcases h with rfl | rfl | rfl
      · rw [o_do1]; exact ⟨.plain (.inl rfl) (.inl rfl) .nil, rfl⟩
      · rw [o_nil]; exact ⟨.nil, rfl⟩
      · rw [o_sayx]; exact ⟨.plain (.inr (.inl rfl)) (.inr (.inl rfl)) .nil, rfl⟩
theorem told_rows {R : List T} {size at_ many bk spot way : Nat} {rs : List Str} {d : Option FT} (hrs : rs.map tl = cHdr :: (R ++ [cFoot])) (hlen : R.length = many) (h1 : 100 ≤ size) (h2 : size ≤ 140) (ha : at_ < many) (hs : spot < many)
    (hR : ∀ i l, R[i]? = some l → RowIs size at_ bk spot i l) (hd : DueOf (dueL size at_ many bk spot way) d) (hw : way ≤ 1) : Told rs way d := by
  obtain ⟨O, hO⟩ : ∃ O, O = scanO 2 ((R.take 299).map oW) := ⟨_, rfl⟩
  obtain ⟨B, hB⟩ : ∃ B, B = (if spot = at_ then 0 else spot + 2) := ⟨_, rfl⟩
  obtain ⟨aw, haw⟩ : ∃ aw, aw = (if size > 120 then 1 else 0) := ⟨_, rfl⟩
  have hB0 : spot = at_ → B = 0 := fun e => by rw [hB, if_pos e]
  have hB1 : spot ≠ at_ → B = spot + 2 := fun e => by rw [hB, if_neg e]
  have haw2 : aw = 1 ↔ size > 120 := by
    rw [haw]
    by_cases c : size > 120
    · simp [c]
    · simp [c]
  have hAB : at_ + 2 ≠ B := by
    by_cases c : spot = at_
    · have := hB0 c; omega
    · have := hB1 c; omega
  have hn : ((R.take 299).map oW).length = min many 299 := by
    rw [List.length_map, List.length_take, hlen]
    omega
  have so := scan_outs (aw := aw) (bk := bk) hAB ((R.take 299).map oW) 2 (fun i o e => by
    rw [List.getElem?_map] at e
    cases q : (R.take 299)[i]? with
    | none => rw [q] at e; cases e
    | some l =>
      rw [q] at e
      obtain rfl := Option.some.inj e
      have q2 : R[i]? = some l := by
        rw [List.getElem?_take] at q
        split at q
        · exact q
        · cases q
      have := info_of (hR i l q2) h1 h2
      rw [hB, haw]
      exact this)
  rw [hn, ← hO] at so
  obtain ⟨so1, so2⟩ := so
  have ds := fun hw => due_sign (bk := bk) (way := way) (A := at_ + 2) rfl hB0 hB1 haw2 rfl ha hs hw
  -- the scan
  have sc : ∃ X, scan isWord (rs.map tl) = (lay 1 wHdr ++ X, stopAt (at_ + 2) B aw bk (min many 299) many) ∧ ((X = O.1 ∧ stopAt (at_ + 2) B aw bk (min many 299) many ≠ none) ∨ (∃ k, X = O.1 ++ lay k wFoot ∧ stopAt (at_ + 2) B aw bk (min many 299) many = none)) := by
    rw [hrs]
    unfold stopAt
    rw [← so1]
    by_cases c : R.length ≤ 298
    · have e1 : R.take 299 = R := List.take_of_length_le (by omega)
      rw [e1] at hO
      rw [scan_few c hO, if_neg (by omega)]
      cases O.2 with
      | some p => exact ⟨O.1, rfl, .inl ⟨rfl, by simp⟩⟩
      | none => exact ⟨O.1 ++ lay (2 + R.length) wFoot, rfl, .inr ⟨_, rfl, rfl⟩⟩
    · rw [scan_many (by omega) hO, if_pos (by omega)]
      cases O.2 with
      | some p => exact ⟨O.1, rfl, .inl ⟨rfl, by simp⟩⟩
      | none => exact ⟨O.1, rfl, .inl ⟨rfl, by simp⟩⟩
  obtain ⟨X, esc, hX⟩ := sc
  rcases Nat.eq_zero_or_pos way with hw0 | hw0
  · refine .inl ⟨hw0, ?_⟩
    rw [esc]
    exact due_one hd (ds (.inl hw0))
  have hw1 : way = 1 := by omega
  refine .inr ⟨hw1, ?_⟩
  rw [esc]
  refine pg_of ?_
  cases hwd : wrd (at_ + 2) B aw bk 2 (min many 299) with
  | some p =>
    have e := due_one hd (due_word (at_ := at_) (many := many) rfl hB0 hB1 haw2 rfl hw1 hwd)
    rw [hwd] at so2
    obtain ⟨S, q, rest, e2, e3⟩ := so2
    rcases hX with ⟨h, _⟩ | ⟨k, h, _⟩
    · exact .inl ⟨S, q, p, rest, by rw [h, e2], e3, e⟩
    · exact .inl ⟨S, q, p, rest ++ lay k wFoot, by rw [h, e2, List.append_assoc]; rfl, e3, e⟩
  | none =>
    have e := due_one hd (ds (.inr hwd))
    rw [hwd] at so2
    have so3 : Stms (O.1.map (·.1)) := so2
    rcases hX with ⟨h, h2⟩ | ⟨k, h, h2⟩
    · cases hst : stopAt (at_ + 2) B aw bk (min many 299) many with
      | none => exact absurd hst h2
      | some p =>
        rw [hst] at e
        exact .inr (.inl ⟨by rw [h]; exact so3, p, rfl, e⟩)
    · rw [h2] at e ⊢
      exact .inr (.inr ⟨O.1, k, h, so3, rfl, e⟩)
end My
namespace My
open PySem L2 SS
/-! ### a kind without anything, and blank rows -/
def cKA : T := tl "kind A under Thing end"
def wKA : List (T × Nat) := [(tl "kind", 1), (tl "A", 6), (tl "under", 8), (tl "Thing", 14), (tl "end", 20)]
theorem o_ka : oW cKA = (wKA, none) := by decide +kernel
theorem scanO_blank : ∀ (n r : Nat), scanO r (List.replicate n (([], none) : Out)) = ([], none)
  | 0, _ => rfl
  | n + 1, r => by
    rw [List.replicate_succ, scanO, scanO_blank n (r + 1)]
    rfl
theorem scan_blank {n : Nat} : scan isWord (cKA :: List.replicate n []) = (lay 1 wKA, if n > 299 then some (301, 1) else none) := by
  have e1 : (cKA :: List.replicate n ([] : T)).take 300 = cKA :: List.replicate (min 299 n) [] := by
    rw [List.take_succ_cons, List.take_replicate]
  have e2 : scanGo isWord 1 (cKA :: List.replicate (min 299 n) []) = (lay 1 wKA, none) := by
    rw [scanO_eq, List.map_cons, List.map_replicate, scanO]
    have eh : outOf isWord cKA = (wKA, none) := o_ka
    have en : outOf isWord [] = ([], none) := o_nil
    rw [eh, en, scanO_blank]
    show (lay 1 wKA ++ [], none) = _
    rw [List.append_nil]
  have e3 : (cKA :: List.replicate n ([] : T)).length = n + 1 := by rw [List.length_cons, List.length_replicate]
  unfold scan
  rw [e1, e2]
  show (_, if (cKA :: List.replicate n ([] : T)).length > 300 then some (301, 1) else none) = _
  rw [e3]
  by_cases c : n > 299
  · rw [if_pos c, if_pos (by omega)]
  · rw [if_neg c, if_neg (by omega)]
def blankDue (n : Nat) : Option FT := if n > 299 then some (301, 1, wSign) else none
theorem told_blank {n way : Nat} {rs : List Str} (hrs : rs.map tl = cKA :: List.replicate n []) (hw : way ≤ 1) : Told rs way (blankDue n) := by
  rcases Nat.eq_zero_or_pos way with hw0 | hw0
  · refine .inl ⟨hw0, ?_⟩
    rw [hrs, scan_blank]
    unfold blankDue
    by_cases c : n > 299
    · simp only [c, if_true]; rfl
    · simp only [c, if_false]; rfl
  · refine .inr ⟨by omega, ?_⟩
    rw [hrs, scan_blank]
    refine ⟨(tl "kind", 1, 1), (tl "A", 1, 6), (tl "under", 1, 8), (tl "Thing", 1, 14), [(tl "end", 1, 20)], rfl, hd_ok, .inl ⟨(tl "end", 1, 20), rfl, (by decide +kernel), fun p hp => ?_, fun h => ?_⟩⟩
    · have hp' : (if n > 299 then some (301, 1) else none) = some p := hp
      unfold blankDue
      by_cases c : n > 299
      · rw [if_pos c] at hp' ⊢
        obtain rfl := Option.some.inj hp'
        rfl
      · rw [if_neg c] at hp'
        cases hp'
    · have hp' : (if n > 299 then some (301, 1) else none) = none := h
      unfold blankDue
      by_cases c : n > 299
      · rw [if_pos c] at hp'
        cases hp'
      · rw [if_neg c]
/-! ### bounds -/
theorem rw_le : ∀ (r cur : T) (k : Nat), ∀ q ∈ rw_ cur k r, q.2 ≤ k + r.length
  | [], cur, k, q, h => by
    rw [rw_] at h
    unfold flush at h
    split at h
    · simp at h
    · simp at h; subst h; show k - cur.length ≤ _; omega
  | c :: r, cur, k, q, h => by
    rw [rw_] at h
    rw [List.length_cons]
    split at h
    · rcases List.mem_append.mp h with h | h
      · rcases List.mem_append.mp h with h | h
        · unfold flush at h
          split at h
          · simp at h
          · simp at h; subst h; show k - cur.length ≤ _; omega
        · split at h
          · simp at h
          · simp at h; subst h; show k ≤ _; omega
      · have := rw_le r [] (k + 1) q h
        omega
    · have := rw_le r (cur ++ [c]) (k + 1) q h
      omega
theorem scanGo_ok : ∀ (ls : List T) (r : Nat), (∀ l ∈ ls, l.length ≤ 500) → (∀ k ∈ (scanGo isWord r ls).1, k.1.length ≤ 1000 ∧ k.2.1 ≤ r + ls.length ∧ k.2.2 ≤ 1000) ∧ ∀ p, (scanGo isWord r ls).2 = some p → p.1 ≤ r + ls.length ∧ p.2 ≤ 1000
  | [], r, _ => ⟨fun k hk => by simp [scanGo] at hk, fun p hp => by simp [scanGo] at hp⟩
  | l :: ls, r, h => by
    have hl := h l List.mem_cons_self
    obtain ⟨ih1, ih2⟩ := scanGo_ok ls (r + 1) (fun x hx => h x (List.mem_cons_of_mem _ hx))
    have hq : ∀ q ∈ rowWords l, q.1.length ≤ 1000 ∧ q.2 ≤ 1000 := fun q hq => by
      have a := rw_wlen l [] 1 q hq
      have b := rw_le l [] 1 q hq
      rw [List.length_nil] at a
      omega
    have hlay : ∀ ps : List (T × Nat), (∀ q ∈ ps, q ∈ rowWords l) → ∀ k ∈ lay r ps, k.1.length ≤ 1000 ∧ k.2.1 ≤ r + (l :: ls).length ∧ k.2.2 ≤ 1000 := fun ps hps k hk => by
      obtain ⟨q, hq1, rfl⟩ := List.mem_map.mp hk
      have := hq q (hps q hq1)
      exact ⟨this.1, Nat.le_add_right _ _, this.2⟩
    rw [scanGo]
    cases e : wrongCol isWord (rowWords l) l.length with
    | some c =>
      refine ⟨hlay _ fun q hq1 => (List.mem_filter.mp hq1).1, fun p hp => ?_⟩
      obtain rfl := Option.some.inj hp
      refine ⟨Nat.le_add_right _ _, ?_⟩
      show c ≤ 1000
      have m := (minOf_some.mp e).1
      unfold cols at m
      rcases List.mem_append.mp m with m | m
      · obtain ⟨q, hq1, rfl⟩ := List.mem_map.mp m
        exact (hq q (List.mem_filter.mp hq1).1).2
      · split at m
        · simp at m; omega
        · simp at m
    | none =>
      refine ⟨fun k hk => ?_, fun p hp => ?_⟩
      · rcases List.mem_append.mp hk with hk | hk
        · exact hlay _ (fun _ z => z) k hk
        · have := ih1 k hk
          rw [List.length_cons]
          omega
      · have := ih2 p hp
        rw [List.length_cons]
        omega
theorem sc_ok {rows : List T} (h : ∀ l ∈ rows, l.length ≤ 500) : ScOk (scan isWord rows) := by
  obtain ⟨g1, g2⟩ := scanGo_ok (rows.take 300) 1 (fun l hl => h l (List.mem_of_mem_take hl))
  have hl : (rows.take 300).length ≤ 300 := by rw [List.length_take]; omega
  have e1 : (scan isWord rows).1 = (scanGo isWord 1 (rows.take 300)).1 := by
    unfold scan
    cases (scanGo isWord 1 (rows.take 300)).2 <;> rfl
  refine ⟨fun k hk => ?_, fun p hp => ?_⟩
  · rw [e1] at hk
    have := g1 k hk
    omega
  · unfold scan at hp
    cases e : (scanGo isWord 1 (rows.take 300)).2 with
    | some q =>
      rw [e] at hp
      obtain rfl := Option.some.inj hp
      have := g2 q e
      omega
    | none =>
      rw [e] at hp
      have hp' : (if rows.length > 300 then some (301, 1) else none) = some p := hp
      split at hp'
      · obtain rfl := Option.some.inj hp'
        exact ⟨by decide, by decide⟩
      · cases hp'
/-! ### the texts -/
theorem joinL_len {y : T} (hy : y.length ≤ 1) {m : Nat} : ∀ rows : List T, (∀ l ∈ rows, l.length ≤ m) → (TL.joinL y rows).length ≤ rows.length * (m + 1)
  | [], _ => by simp [TL.joinL]
  | [x], h => by
    have := h x List.mem_cons_self
    show x.length ≤ 1 * (m + 1)
    omega
  | x :: z :: r, h => by
    have h1 := h x List.mem_cons_self
    have ih := joinL_len hy (z :: r) (fun l hl => h l (List.mem_cons_of_mem _ hl))
    show (x ++ (y ++ TL.joinL y (z :: r))).length ≤ _
    rw [List.length_append, List.length_append, List.length_cons, Nat.succ_mul]
    omega
theorem joinL_app (y : T) : ∀ (a : List T) (b : T), a ≠ [] → TL.joinL y (a ++ [b]) = TL.joinL y a ++ (y ++ b)
  | [], _, h => absurd rfl h
  | [x], b, _ => rfl
  | x :: z :: r, b, _ => by
    show x ++ (y ++ TL.joinL y (z :: r ++ [b])) = (x ++ (y ++ TL.joinL y (z :: r))) ++ (y ++ b)
    rw [joinL_app y (z :: r) b (by simp)]
    simp only [List.append_assoc]
theorem joinL_cons (y : T) (x : T) : ∀ (a : List T), a ≠ [] → TL.joinL y (x :: a) = x ++ (y ++ TL.joinL y a)
  | [], h => absurd rfl h
  | z :: r, _ => rfl
theorem str_eq {a b : Str} (h : TL.tl a = TL.tl b) : a = b := by
  rw [← mk_tl a, ← mk_tl b]
  show mk (TL.tl a) = mk (TL.tl b)
  rw [h]
theorem nl_tl : TL.tl nl = [10] := by decide +kernel
/-- rows without line feeds, joined and split -/
theorem fits_join {z : Str} {rs : List Str} (hz : tl z = TL.joinL [10] (rs.map tl)) (hne : rs ≠ []) (hlen : rs.length ≤ 400) (h : ∀ r ∈ rs, (tl r).length ≤ 200 ∧ 10 ∉ tl r) : Fits z rs := by
  have e : z = Txt.join nl rs := by
    rw [TL.join_eq]
    refine str_eq ?_
    rw [TL.tl_join, nl_tl]
    exact hz
  refine ⟨?_, ?_, by omega, fun r hr => ?_⟩
  · rw [e]
    exact TL.split_join (s := 10) (S := []) nl_tl (by decide +kernel) hne fun p hp => (h p hp).2
  · have := joinL_len (y := [10]) (by decide) (m := 200) (rs.map tl) (fun l hl => by
      obtain ⟨r, hr, rfl⟩ := List.mem_map.mp hl
      exact (h r hr).1)
    rw [← len_tl, hz]
    rw [List.length_map] at this
    have h2 : rs.length * (200 + 1) ≤ 400 * 201 := Nat.mul_le_mul hlen (Nat.le_refl _)
    omega
  · have := (h r hr).1
    rw [len_tl] at this
    omega
def sHdr : Str := Str.ofString "kind A under Thing method m :"
def sFoot : Str := Str.ofString "end end"
def sKA : Str := Str.ofString "kind A under Thing end"
/-- the page with a method -/
theorem fits_page {z : Str} {R : List Str} (hz : z = (Str.ofString "kind A under Thing method m :\n" ++ Str.join (Str.ofString "\n") R) ++ Str.ofString "\nend end") (hne : R ≠ []) (hlen : R.length ≤ 330) (h : ∀ r ∈ R, (tl r).length ≤ 200 ∧ 10 ∉ tl r) : Fits z (sHdr :: (R ++ [sFoot])) := by
  refine fits_join ?_ (by simp) (by rw [List.length_cons, List.length_append]; simp; omega) (fun r hr => ?_)
  · rw [List.map_cons, List.map_append, List.map_cons, List.map_nil, joinL_cons _ _ _ (by simp), joinL_app _ _ _ (by simpa using hne), hz, tl_add, tl_add]
    have e1 : tl (Str.ofString "kind A under Thing method m :\n") = tl sHdr ++ [10] := by decide +kernel
    have e2 : tl (Str.ofString "\nend end") = [10] ++ tl sFoot := by decide +kernel
    have e3 : tl (Str.join (Str.ofString "\n") R) = TL.joinL [10] (R.map tl) := by
      have := TL.tl_join nl R
      rw [nl_tl] at this
      exact this
    rw [e1, e2, e3]
    simp only [List.append_assoc]
  · rcases List.mem_cons.mp hr with rfl | hr
    · decide +kernel
    · rcases List.mem_append.mp hr with hr | hr
      · exact h r hr
      · have : r = sFoot := by simpa using hr
        rw [this]
        decide +kernel
theorem joinL_blank (x : T) : ∀ n : Nat, TL.joinL [10] (x :: List.replicate n []) = x ++ List.replicate n 10
  | 0 => by
    show x = x ++ []
    rw [List.append_nil]
  | n + 1 => by
    rw [List.replicate_succ]
    show x ++ ([10] ++ TL.joinL [10] ([] :: List.replicate n [])) = _
    rw [joinL_blank [] n]
    rfl
theorem fits_blank {z : Str} {n : Nat} (hz : tl z = tl sKA ++ List.replicate n 10) (hn : n ≤ 303) : Fits z (sKA :: List.replicate n Str.empty) := by
  refine fits_join ?_ (by simp) (by rw [List.length_cons, List.length_replicate]; omega) (fun r hr => ?_)
  · rw [List.map_cons, List.map_replicate, hz]
    exact (joinL_blank (tl sKA) n).symm
  · rcases List.mem_cons.mp hr with rfl | hr
    · decide +kernel
    · obtain rfl := (List.mem_replicate.mp hr).2
      decide +kernel
end My
namespace My
open PySem L2 SS
abbrev sLaw : Stmt := top 50
section
variable {P : Program} {w : World} {K : PySem.W.Frag} {mg : Str → Option Value} {base : Heap} {S CF fI fS C CP fF fK : Addr}
theorem row_len {size at_ bk spot i : Nat} {l : T} (h1 : 100 ≤ size) (h2 : size ≤ 140) (h : RowIs size at_ bk spot i l) : l.length ≤ 140 ∧ 10 ∉ l := by
  unfold RowIs at h
  have pl : l = cDo1 ∨ l = [] ∨ l = cSayX → l.length ≤ 140 ∧ 10 ∉ l := by
    rintro (rfl | rfl | rfl)
    · decide +kernel
    · decide
    · decide +kernel
  by_cases c : i = at_
  · rw [if_pos c] at h
    refine ⟨by have := (out_special h h1 h2).2.2; omega, ?_⟩
    rcases h with rfl | ⟨h3, t, ht, rfl⟩ | ⟨hh, c, h60, hc, rfl⟩
    · intro z
      have := (List.mem_replicate.mp z).2
      omega
    · intro z
      rcases List.mem_append.mp z with z | z
      · exact absurd z (by decide +kernel)
      · have z2 := List.mem_of_mem_take z
        rcases ht with rfl | rfl
        · exact absurd z2 (by decide +kernel)
        · exact absurd z2 (by decide +kernel)
    · intro z
      rcases List.mem_append.mp z with z | z
      · rcases List.mem_append.mp z with z | z
        · have := (List.mem_replicate.mp z).2
          omega
        · rcases hc with rfl | rfl | rfl | rfl <;> exact absurd z (by decide)
      · have := (List.mem_replicate.mp z).2
        omega
  · rw [if_neg c] at h
    by_cases c1 : i = spot ∧ bk = 1
    · rw [if_pos c1] at h
      rw [h]
      decide +kernel
    · rw [if_neg c1] at h
      by_cases c2 : i = spot ∧ bk = 2
      · rw [if_pos c2] at h
        rw [h]
        decide
      · rw [if_neg c2] at h
        exact pl h
theorem ixN_n {n j : Nat} (hj : j < n) : ixN n (j : Int) = some j := by
  unfold ixN
  rw [if_pos (by omega), if_pos (by omega)]
  simp
theorem str_sign : PyData.strOk wSign = true := by decide +kernel
theorem str_word : PyData.strOk wWord = true := by decide +kernel
theorem DeckAt.same {H H' : Hp} {p l : Addr} {a : Nat} {xs : List Int} (h : DeckAt H p l a xs) (s : Same H H') : DeckAt H' p l a xs := ⟨s _ _ h.1, s _ _ h.2.1, h.2.2⟩
/-- what a draw leaves -/
def dkO (a : Nat) (l : Addr) : HO := .lst [.int ((a + 1 : Nat) : Int), .ref l, .int 70]
def PlainRow (l : T) : Prop := l = cDo1 ∨ l = [] ∨ l = cSayX
theorem pick3 (n : Int) : ∃ r : Str, atI [V.str (Str.ofString "do 1"), V.str (Str.ofString ""), V.str (Str.ofString "say 'x")] (n % 3) = some (.str r) ∧ PlainRow (tl r) := by
  have e0 := Int.emod_nonneg n (show (3 : Int) ≠ 0 by decide)
  have e1 := Int.emod_lt_of_pos n (show (0 : Int) < 3 by decide)
  obtain ⟨j, hj⟩ : ∃ j : Nat, n % 3 = (j : Nat) := ⟨(n % 3).toNat, by omega⟩
  rw [hj]
  have hj5 : j < 3 := by omega
  rcases j with _ | _ | _ | j
  · exact ⟨_, atI_nat rfl, .inl (by decide +kernel)⟩
  · exact ⟨_, atI_nat rfl, .inr (.inl (by decide +kernel))⟩
  · exact ⟨_, atI_nat rfl, .inr (.inr (by decide +kernel))⟩
  · omega
theorem pickO (n : Int) : ∃ bk : Nat, bk ≤ 2 ∧ atI [V.str (Str.ofString ""), V.str (Str.ofString "do ]"), V.str (Str.ofString "~")] (n % 3) = some (.str (oddS bk)) := by
  have e0 := Int.emod_nonneg n (show (3 : Int) ≠ 0 by decide)
  have e1 := Int.emod_lt_of_pos n (show (0 : Int) < 3 by decide)
  obtain ⟨j, hj⟩ : ∃ j : Nat, n % 3 = (j : Nat) := ⟨(n % 3).toNat, by omega⟩
  rw [hj]
  have hj5 : j < 3 := by omega
  rcases j with _ | _ | _ | j
  · exact ⟨0, by omega, atI_nat rfl⟩
  · exact ⟨1, by omega, atI_nat rfl⟩
  · exact ⟨2, by omega, atI_nat rfl⟩
  · omega
def spLaw (K : PySem.W.Frag) : Sp := fun vs H Q _ => ∃ (a : Addr) (ns : List Int), vs = [.ref a] ∧ SqL K H a (ns.map V.int) ∧ ns.length ≤ 63 ∧ ∀ H', Q (.bl true) H'
theorem scLaw : FnScope ["_law_script", "_law_deck_here", "_law_many", "_law_size", "_law_at", "_law_rows", "_law_odd", "_law_spot", "_law_text", "_law_blank", "_law_way", "_law_due_here", "_law_k"] ["_law_script"] (defScope sLaw) := ⟨rfl, rfl, rfl, by decide +kernel, rfl, by decide +kernel, by decide +kernel⟩
theorem ok_law {f : Addr} {fd : FuncData} (F : Fun K "law" "law" sLaw f fd) (TS : TxS K mg) (T : TxL mg) (GD : C0 P w K mg base 1 "_law_deck" (spDeck K)) (GN : C0 P w K mg base 1 "_law_next" spNext) (GR : C0 P w K mg base 1 "_law_row" spLRow) (GU : C0 P w K mg base 1 "_law_due" spDue) (GT : C0 P w K mg base 19 "_law_told_right" spTR) :
    FnOk P w K mg base CX0 20 f fd ["_law_script"] (spLaw K) := by
  refine F.ok scLaw (fun vs H Q E h => ?_) (fun cdv A outer s H vs Q E hr h => ?_)
  · obtain ⟨a, ns, rfl, _⟩ := h
    rfl
  obtain ⟨a, ns, rfl, hS, hns, k⟩ := h
  refine ⟨_, pss_cons (ps_set (i := 1) scLaw.nd rfl (Or.inr rfl) (pe_cc GD hr (by decide) pass0 (pa_cons (pv 0) pa_nil))) <|
    pss_cons (ps_set (i := 2) scLaw.nd rfl (Or.inl rfl) (pe_op op_add pe_int (pe_op op_mod (pe_cc GN hr (by decide) pass0 (pa_cons (pv 1) pa_nil)) pe_int))) <|
    C8.pss_cut (ps_if (pt_cmpR op_eq (pe_op op_mod (pe_cc GN hr (by decide) pass0 (pa_cons (pv 1) pa_nil)) pe_int) pe_int (nomark _)) (pss_one (ps_set (i := 2) scLaw.nd rfl (Or.inl rfl) (pe_op op_add pe_int (pe_op op_mod (pe_cc GN hr (by decide) pass0 (pa_cons (pv 1) pa_nil)) pe_int)))) pss_nil) <|
    pss_cons (ps_set (i := 3) scLaw.nd rfl (Or.inl rfl) (pe_op op_add pe_int (pe_op op_mod (pe_cc GN hr (by decide) pass0 (pa_cons (pv 1) pa_nil)) pe_int))) <|
    pss_cons (ps_set (i := 4) scLaw.nd rfl (Or.inl rfl) (pe_op op_mod (pe_cc GN hr (by decide) pass0 (pa_cons (pv 1) pa_nil)) (pv 2))) <|
    pss_cons (ps_setLc (i := 5) (own := [("_law_k", 12)]) (g := gName 12) (by rfl) scLaw.nd rfl rfl (sw_true rfl rfl rfl (by decide +kernel)) (pi_range1 rfl T.range (pa_cons (pv 2) pa_nil))
      (blkOk_by (own := [("_law_k", 12)]) (N := ["_law_script", "_law_deck_here", "_law_many", "_law_size", "_law_at", "_law_rows", "_law_odd", "_law_spot", "_law_text", "_law_blank", "_law_way", "_law_due_here", "_law_k"]) (sc := defScope sLaw) (by decide +kernel))
      (fun _ _ _ _ _ => pg_name (i := 12) scLaw.nd rfl (Or.inl rfl)) (fun _ _ _ _ _ => pts_nil)
      (fun _ _ _ _ _ => pe_ix (r := rIxL K) ix_list (pe_lst (pa_cons pe_str (pa_cons pe_str (pa_cons pe_str pa_nil)))) (pe_op op_mod (pe_cc GN hr (by decide) pass0 (pa_cons (pv 1) pa_nil)) pe_int) (fun _ _ => rfl))) <|
    pss_cons (ps_set (i := 6) scLaw.nd rfl (Or.inl rfl) (pe_ix ix_list (pe_lst (pa_cons pe_str (pa_cons pe_str (pa_cons pe_str pa_nil)))) (pe_op op_mod (pe_cc GN hr (by decide) pass0 (pa_cons (pv 1) pa_nil)) pe_int) (fun _ _ => rfl))) <|
    pss_cons (ps_set (i := 7) scLaw.nd rfl (Or.inl rfl) (pe_op op_mod (pe_cc GN hr (by decide) pass0 (pa_cons (pv 1) pa_nil)) (pv 2))) <|
    C8.pss_cut (ps_if (pt_cmpR op_ne (pv 6) pe_str (nomark _)) (pss_one (ps_asg (pv 6) (pg_sub (pv 5) (pv 7) set_list))) pss_nil) <|
    pss_cons (ps_asg (pe_cc GR hr (by decide) pass0 (pa_cons (pv 3) (pa_cons (pe_cc GN hr (by decide) pass0 (pa_cons (pv 1) pa_nil)) pa_nil))) (pg_sub (pv 5) (pv 4) set_list)) <|
    pss_cons (ps_set (i := 8) scLaw.nd rfl (Or.inl rfl) (pe_op op_add_str (pe_op op_add_str pe_str (pe_join pe_str (pv 5))) pe_str)) <|
    pss_cons (ps_set (i := 9) scLaw.nd rfl (Or.inl rfl) (pe_op op_add pe_int (pe_op op_mod (pe_cc GN hr (by decide) pass0 (pa_cons (pv 1) pa_nil)) pe_int))) <|
    pss_cons (ps_for PassesOwn.never rfl (pi_range1 rfl T.range (pa_cons pe_int pa_nil)) (pg_name (i := 10) scLaw.nd rfl (Or.inl rfl)) <|
      pss_cons (ps_if (pt_not (pt_val (pe_cc GT hr (by decide) pass0 (pa_cons (pv 8) (pa_cons (pv 10) (pa_cons (pe_cc GU hr (by decide) pass0 (pa_cons (pv 3) (pa_cons (pv 4) (pa_cons (pv 2) (pa_cons (pv 6) (pa_cons (pv 7) (pa_cons (pv 10) pa_nil))))))) pa_nil)))))) (pss_one (ps_ret pe_bl)) pss_nil) <|
      pss_cons (ps_set (i := 11) scLaw.nd rfl (Or.inl rfl) (pe_ix ix_list (pe_lst (pa_cons pe_non (pa_cons (pe_tup (pa_cons pe_int (pa_cons pe_int (pa_cons pe_str pa_nil)))) pa_nil))) (pe_callTy call_int1 (by rfl) TS.int (by decide +kernel) (pa_cons (pe_cmpR op_gt (pv 9) pe_int (nomark _)) pa_nil)) (fun _ _ => rfl))) <|
      pss_one (ps_if (pt_not (pt_val (pe_cc GT hr (by decide) pass0 (pa_cons (pe_op op_add_str pe_str (pe_op op_mul_str pe_str (pv 9))) (pa_cons (pv 10) (pa_cons (pv 11) pa_nil)))))) (pss_one (ps_ret pe_bl)) pss_nil)) <|
    pss_one (ps_ret pe_bl), ?_⟩
  refine ⟨_, rfl, a, ns, rfl, hS, hns, fun H1 p l xs _ _ _ d0 => ?_⟩
  refine ⟨_, rfl, p, l, 0, xs, rfl, d0, by omega, fun n1 h1 d1 => ?_⟩
  generalize upd H1 p _ = H2 at d1 ⊢
  refine ⟨_, _, rfl, rfl, (by show (0 : Int) < 40; decide), _, _, rfl, rfl, ?_⟩
  obtain ⟨m1, em1, hm1, hm1'⟩ : ∃ m : Nat, 1 + n1 % 40 = (m : Int) ∧ 1 ≤ m ∧ m ≤ 329 := by
    have e0 := Int.emod_nonneg n1 (show (40 : Int) ≠ 0 by decide)
    have e1 := Int.emod_lt_of_pos n1 (show (0 : Int) < 40 by decide)
    exact ⟨(1 + n1 % 40).toNat, by omega, by omega, by omega⟩
  show gName 2 (V.int (1 + n1 % 40)) _ _ _
  rw [em1]
  refine ⟨fun σ H => ∃ (many a0 : Nat), σ = [some (.ref a), some (.ref p), some (.int (many : Nat)), none, none, none, none, none, none, none, none, none, none] ∧ 1 ≤ many ∧ many ≤ 329 ∧ DeckAt H p l a0 xs ∧ a0 ≤ 3, ?_, ?_⟩
  · refine ⟨_, rfl, p, l, 1, xs, rfl, d1, by omega, fun n2 h2 d2 => ?_⟩
    generalize upd H2 p _ = H3 at d2 ⊢
    refine ⟨_, _, rfl, rfl, (by show (0 : Int) < 3; decide), rfl, _, rfl, ?_⟩
    refine ite2 (fun c => ?_) (fun c => ?_)
    · refine ⟨_, rfl, p, l, 2, xs, rfl, d2, by omega, fun n3 h3 d3 => ?_⟩
      generalize upd H3 p _ = H4 at d3 ⊢
      refine ⟨_, _, rfl, rfl, (by show (0 : Int) < 40; decide), _, _, rfl, rfl, ?_⟩
      obtain ⟨m2, em2, hm2, hm2'⟩ : ∃ m : Nat, 290 + n3 % 40 = (m : Int) ∧ 1 ≤ m ∧ m ≤ 329 := by
        have e0 := Int.emod_nonneg n3 (show (40 : Int) ≠ 0 by decide)
        have e1 := Int.emod_lt_of_pos n3 (show (0 : Int) < 40 by decide)
        exact ⟨(290 + n3 % 40).toNat, by omega, by omega, by omega⟩
      show gName 2 (V.int (290 + n3 % 40)) _ _ _
      rw [em2]
      exact ⟨m2, 3, rfl, hm2, hm2', d3, by omega⟩
    · exact ⟨m1, 2, rfl, hm1, hm1', d2, by omega⟩
  rintro σ5 H5 ⟨many, a5, rfl, hm1, hm2, d5, ha5⟩
  refine ⟨_, rfl, p, l, a5, xs, rfl, d5, by omega, fun n6 h6 d6 => ?_⟩
  generalize upd H5 p _ = H6 at d6 ⊢
  refine ⟨_, _, rfl, rfl, (by show (0 : Int) < 41; decide), _, _, rfl, rfl, ?_⟩
  obtain ⟨size, es, hs1, hs2⟩ : ∃ m : Nat, 100 + n6 % 41 = (m : Int) ∧ 100 ≤ m ∧ m ≤ 140 := by
    have e0 := Int.emod_nonneg n6 (show (41 : Int) ≠ 0 by decide)
    have e1 := Int.emod_lt_of_pos n6 (show (0 : Int) < 41 by decide)
    exact ⟨(100 + n6 % 41).toNat, by omega, by omega, by omega⟩
  show gName 3 (V.int (100 + n6 % 41)) _ _ _
  rw [es]
  have hmp : (0 : Int) < ((many : Nat) : Int) := by omega
  have md : ∀ n : Int, ∃ j : Nat, n % ((many : Nat) : Int) = ((j : Nat) : Int) ∧ j < many := fun y => by
    have h1 := Int.emod_nonneg y (show ((many : Nat) : Int) ≠ 0 by omega)
    have h2 := Int.emod_lt_of_pos y hmp
    exact ⟨(y % ((many : Nat) : Int)).toNat, by omega, by omega⟩
  refine ⟨_, rfl, p, l, a5 + 1, xs, rfl, d6, by omega, fun n7 h7 d7 => ?_⟩
  generalize upd H6 p _ = H7 at d7 ⊢
  refine ⟨_, rfl, _, _, rfl, rfl, hmp, ?_⟩
  obtain ⟨at_, ea, hat⟩ := md n7
  show gName 4 (V.int (n7 % ((many : Nat) : Int))) _ _ _
  rw [ea]
  refine ⟨_, rfl, (many : Nat), rfl, by omega, by omega, fun D hD => ?_⟩
  have hpD : D ≠ p := fun z => by rw [z, d7.1] at hD; cases hD
  have hlD : D ≠ l := fun z => by rw [z, d7.2.1] at hD; cases hD
  refine lc_range (lo := 0) (n := ((many : Nat) : Int).toNat) (fun i H => ∃ (a0 : Nat) (rs : List Str), DeckAt H p l a0 xs ∧ a0 ≤ 5 + i ∧ H D = some (.lst (rs.map V.str)) ∧ rs.length = i ∧ ∀ r ∈ rs, PlainRow (tl r)) ⟨a5 + 2, [], d7.same (same_new hD _), by omega, upd_same, rfl, fun r hr => by simp at hr⟩ ?_ ?_
  · rintro i H8 hi ⟨a8, rs, d8, ha8, hD8, hl8, hr8⟩
    have hi' : i < many := by omega
    refine ⟨rfl, ?_⟩
    unfold tYes
    refine iteT ?_
    refine ⟨by decide, fun L hL => ?_⟩
    have s9 := same_new hL (.lst [V.str (Str.ofString "do 1"), V.str (Str.ofString ""), V.str (Str.ofString "say 'x")])
    have d9 := d8.same s9
    have hLp : L ≠ p := fun z => by rw [z, d8.1] at hL; cases hL
    refine ⟨_, rfl, p, l, a8, xs, rfl, d9, by omega, fun n10 h10 d10 => ?_⟩
    obtain ⟨r, hr, pr⟩ := pick3 n10
    refine ⟨_, _, rfl, rfl, (by show (0 : Int) < 3; decide), L, _, _, _, rfl, rfl, SqL.of (by rw [upd_ne hLp]; exact upd_same), hr, ?_⟩
    refine ⟨rs.map V.str, by rw [upd_ne hpD]; exact s9 _ _ hD8, by rw [List.length_map, hl8, sizeLine_eq]; omega, ?_⟩
    refine ⟨a8 + 1, rs ++ [r], ?_, by omega, ?_, ?_, ?_⟩
    · exact ⟨by rw [upd_ne hpD.symm]; exact d10.1, by rw [upd_ne hlD.symm]; exact d10.2.1, d10.2.2⟩
    · rw [upd_same, List.map_append]
      rfl
    · rw [List.length_append, hl8]
      rfl
    · intro q hq
      rcases List.mem_append.mp hq with hq | hq
      · exact hr8 q hq
      · have : q = r := by simpa using hq
        rw [this]
        exact pr
  rintro H11 ⟨a11, rs, d11, ha11, hD11, hl11, hr11⟩
  have hlen : rs.length = many := by omega
  -- the odd row's word, its spot
  refine ⟨by decide, fun L hL => ?_⟩
  have s12 := same_new hL (.lst [V.str (Str.ofString ""), V.str (Str.ofString "do ]"), V.str (Str.ofString "~")])
  have d12 := d11.same s12
  have hLp : L ≠ p := fun z => by rw [z, d11.1] at hL; cases hL
  have hLD : L ≠ D := fun z => by rw [z, hD11] at hL; cases hL
  refine ⟨_, rfl, p, l, a11, xs, rfl, d12, by omega, fun n13 h13 d13 => ?_⟩
  obtain ⟨bk, hbk, ebk⟩ := pickO n13
  refine ⟨_, _, rfl, rfl, (by show (0 : Int) < 3; decide), L, _, _, _, rfl, rfl, SqL.of (by rw [upd_ne hLp]; exact upd_same), ebk, ?_⟩
  have hD13 : upd (upd H11 L (.lst [V.str (Str.ofString ""), V.str (Str.ofString "do ]"), V.str (Str.ofString "~")])) p (.lst [.int ((a11 + 1 : Nat) : Int), .ref l, .int 70]) D = some (.lst (rs.map V.str)) := by
    rw [upd_ne hpD, upd_ne hLD.symm]
    exact hD11
  generalize upd (upd H11 L _) p _ = H13 at d13 hD13 ⊢
  refine ⟨_, rfl, p, l, a11 + 1, xs, rfl, d13, by omega, fun n14 h14 d14 => ?_⟩
  have hD14 : upd H13 p (.lst [.int ((a11 + 1 + 1 : Nat) : Int), .ref l, .int 70]) D = some (.lst (rs.map V.str)) := by
    rw [upd_ne hpD]
    exact hD13
  generalize upd H13 p _ = H14 at d14 hD14 ⊢
  refine ⟨_, rfl, _, _, rfl, rfl, hmp, ?_⟩
  obtain ⟨spot, espot, hspot⟩ := md n14
  show gName 7 (V.int (n14 % ((many : Nat) : Int))) _ _ _
  rw [espot]
  refine ⟨fun σ H => ∃ (rs1 : List Str), σ = [some (.ref a), some (.ref p), some (.int (many : Nat)), some (.int (size : Nat)), some (.int (at_ : Nat)), some (.ref D), some (.str (oddS bk)), some (.int (spot : Nat)), none, none, none, none, none] ∧ DeckAt H p l (a11 + 2) xs ∧ H D = some (.lst (rs1.map V.str)) ∧ rs1.length = many ∧
    ∀ i r, rs1[i]? = some r → (if i = spot ∧ bk = 1 then tl r = cDoR else if i = spot ∧ bk = 2 then tl r = [126] else PlainRow (tl r)), ?_, ?_⟩
  · refine ⟨_, rfl, rfl, _, rfl, ?_⟩
    rw [dec_str]
    refine ite2 (fun c => ?_) (fun c => ?_)
    · have c1 : ¬ oddS bk = Str.ofString "" := by simpa using c
      have hb : bk = 1 ∨ bk = 2 := by
        rcases bk with _ | _ | _ | bk
        · exact absurd rfl c1
        · exact .inl rfl
        · exact .inr rfl
        · omega
      refine ⟨_, rfl, _, rfl, _, rfl, D, _, _, spot, rfl, rfl, hD14, by rw [List.length_map, hlen]; exact ixN_n hspot, ?_⟩
      refine ⟨rs.set spot (oddS bk), rfl, ?_, ?_, by rw [List.length_set]; exact hlen, fun i r hr => ?_⟩
      · exact ⟨by rw [upd_ne hpD.symm]; exact d14.1, by rw [upd_ne hlD.symm]; exact d14.2.1, d14.2.2⟩
      · rw [upd_same, List.map_set]
      · by_cases ei : i = spot
        · subst ei
          rw [List.getElem?_set_self (by omega)] at hr
          obtain rfl := Option.some.inj hr
          rcases hb with rfl | rfl
          · rw [if_pos ⟨rfl, rfl⟩]
            decide +kernel
          · rw [if_neg (fun z => absurd z.2 (by decide)), if_pos ⟨rfl, rfl⟩]
            decide +kernel
        · rw [List.getElem?_set_ne (fun z => ei z.symm)] at hr
          rw [if_neg (fun z => ei z.1), if_neg (fun z => ei z.1)]
          exact hr11 r (List.mem_of_getElem? hr)
    · have c1 : oddS bk = Str.ofString "" := by simpa using c
      have hb : bk = 0 := by
        rcases bk with _ | _ | _ | bk
        · rfl
        · exact absurd c1 (by decide +kernel)
        · exact absurd c1 (by decide +kernel)
        · omega
      refine ⟨rs, rfl, d14, hD14, hlen, fun i r hr => ?_⟩
      rw [if_neg (fun z => by omega), if_neg (fun z => by omega)]
      exact hr11 r (List.mem_of_getElem? hr)
  rintro σ15 H15 ⟨rs1, rfl, d15, hD15, hl15, hr15⟩
  -- the long row
  refine ⟨_, rfl, _, rfl, p, l, a11 + 2, xs, rfl, d15, by omega, fun n16 h16 d16 => ?_⟩
  have hD16 : upd H15 p (.lst [.int ((a11 + 2 + 1 : Nat) : Int), .ref l, .int 70]) D = some (.lst (rs1.map V.str)) := by
    rw [upd_ne hpD]
    exact hD15
  generalize upd H15 p _ = H16 at d16 hD16 ⊢
  refine ⟨size, n16, rfl, hs1, hs2, h16, fun z H17 s17 hz => ?_⟩
  have d17 := d16.same s17
  have hD17 := s17 _ _ hD16
  refine ⟨_, rfl, _, rfl, D, _, _, at_, rfl, rfl, hD17, by rw [List.length_map, hl15]; exact ixN_n hat, ?_⟩
  have hR2 : ∃ rs2 : List Str, (rs1.map V.str).set at_ (.str z) = rs2.map V.str ∧ rs2.length = many ∧ ∀ i r, rs2[i]? = some r → RowIs size at_ bk spot i (tl r) := by
    refine ⟨rs1.set at_ z, by rw [List.map_set], by rw [List.length_set]; exact hl15, fun i r hr => ?_⟩
    unfold RowIs
    by_cases ei : i = at_
    · subst ei
      rw [List.getElem?_set_self (by omega)] at hr
      obtain rfl := Option.some.inj hr
      rw [if_pos rfl]
      exact hz
    · rw [List.getElem?_set_ne (fun z => ei z.symm)] at hr
      rw [if_neg ei]
      exact hr15 i r hr
  obtain ⟨rs2, er2, hl2, hrow⟩ := hR2
  rw [er2]
  have d18 : DeckAt (upd H17 D (.lst (rs2.map V.str))) p l (a11 + 2 + 1) xs := ⟨by rw [upd_ne hpD.symm]; exact d17.1, by rw [upd_ne hlD.symm]; exact d17.2.1, d17.2.2⟩
  have hD18 : upd H17 D (.lst (rs2.map V.str)) D = some (.lst (rs2.map V.str)) := upd_same
  generalize upd H17 D (.lst (rs2.map V.str)) = H18 at d18 hD18 ⊢
  have hrl : ∀ r ∈ rs2, (tl r).length ≤ 140 ∧ 10 ∉ tl r := fun r hr => by
    obtain ⟨i, hi⟩ := List.getElem?_of_mem hr
    exact row_len hs1 hs2 (hrow i r hi)
  have hsum : (rs2.map (·.length)).sum ≤ rs2.length * 140 := by
    clear hrow hD18 er2 hl2
    induction rs2 with
    | nil => simp
    | cons r q ih =>
      have h1 := (hrl r List.mem_cons_self).1
      have h2 := ih fun x hx => hrl x (List.mem_cons_of_mem _ hx)
      rw [len_tl] at h1
      rw [List.map_cons, List.sum_cons, List.length_cons, Nat.succ_mul]
      omega
  -- the text
  have hne2 : rs2 ≠ [] := fun z => by rw [z] at hl2; simp at hl2; omega
  have hFit := fits_page (z := (Str.ofString "kind A under Thing method m :\n" ++ Str.join (Str.ofString "\n") rs2) ++ Str.ofString "\nend end") rfl hne2 (by omega) (fun r hr => ⟨by have := (hrl r hr).1; omega, (hrl r hr).2⟩)
  obtain ⟨tx, htx⟩ : ∃ t, t = (Str.ofString "kind A under Thing method m :\n" ++ Str.join (Str.ofString "\n") rs2) ++ Str.ofString "\nend end" := ⟨_, rfl⟩
  rw [← htx] at hFit
  have hjl : (Str.join (Str.ofString "\n") rs2).length ≤ 100000 := by
    have := joinL_len (y := [10]) (by decide) (m := 140) (rs2.map tl) (fun l hl => by
      obtain ⟨r, hr, rfl⟩ := List.mem_map.mp hl
      exact (hrl r hr).1)
    have e := TL.tl_join nl rs2
    rw [nl_tl] at e
    rw [List.length_map, hl2] at this
    rw [← len_tl]
    have e2 : tl (Str.join (Str.ofString "\n") rs2) = TL.joinL [10] (rs2.map tl) := e
    rw [e2]
    have h3 : many * (140 + 1) ≤ 329 * 141 := Nat.mul_le_mul hm2 (Nat.le_refl _)
    exact Nat.le_trans this (Nat.le_trans h3 (by decide))
  have hl0 : (Str.ofString "kind A under Thing method m :\n").length = 30 := by decide +kernel
  have hl9 : (Str.ofString "\nend end").length = 8 := by decide +kernel
  have hln : (Str.ofString "\n").length = 1 := by decide +kernel
  refine ⟨⟨_, rfl⟩, _, rfl, _, D, rs2, rfl, rfl, .inl (SqL.of hD18), ?_, ?_⟩
  · rw [hln, hl2] at *
    have h3 : many * 140 ≤ 329 * 140 := Nat.mul_le_mul hm2 (Nat.le_refl _)
    omega
  rw [TL.join_eq]
  refine ⟨_, _, rfl, rfl, by rw [hl0, sizeLine_eq]; omega, _, _, rfl, rfl, ?_, ?_⟩
  · rw [hl9, sizeLine_eq, ← len_tl, tl_add, List.length_append, len_tl, len_tl, hl0]
    omega
  rw [← htx]
  refine ⟨_, rfl, p, l, a11 + 2 + 1, xs, rfl, d18, by omega, fun n19 h19 d19 => ?_⟩
  generalize upd H18 p _ = H19
  refine ⟨_, _, rfl, rfl, (by show (0 : Int) < 8; decide), _, _, rfl, rfl, ?_⟩
  obtain ⟨bl, ebl, hb1, hb2⟩ : ∃ m : Nat, 296 + n19 % 8 = (m : Int) ∧ 296 ≤ m ∧ m ≤ 303 := by
    have e0 := Int.emod_nonneg n19 (show (8 : Int) ≠ 0 by decide)
    have e1 := Int.emod_lt_of_pos n19 (show (0 : Int) < 8 by decide)
    exact ⟨(296 + n19 % 8).toNat, by omega, by omega, by omega⟩
  show gName 9 (V.int (296 + n19 % 8)) _ _ _
  rw [ebl]
  refine ⟨2, rfl, by decide, by decide, ?_⟩
  refine for_range (lo := 0) (n := (2 : Int).toNat) (fun i σ H => ∃ (v10 v11 : Option V), σ = [some (.ref a), some (.ref p), some (.int (many : Nat)), some (.int (size : Nat)), some (.int (at_ : Nat)), some (.ref D), some (.str (oddS bk)), some (.int (spot : Nat)), some (.str tx), some (.int (bl : Nat)), v10, v11, none])
    ⟨none, none, rfl⟩ ?_ ?_
  · rintro i σ H20 hi ⟨v10, v11, rfl⟩
    have hi2 : i < 2 := by simpa using hi
    show gName 10 (V.int (0 + ((i : Nat) : Int))) _ _ _
    rw [Int.zero_add]
    refine ⟨_, rfl, _, rfl, _, rfl, _, rfl, _, rfl, _, rfl, _, rfl, _, rfl, size, at_, many, bk, spot, i, rfl, hbk, fun v H21 d s21 hd hv => ?_⟩
    have hrs : (sHdr :: (rs2 ++ [sFoot])).map tl = cHdr :: (rs2.map tl ++ [cFoot]) := by
      rw [List.map_cons, List.map_append]
      rfl
    have hsc : ScOk (scan isWord ((sHdr :: (rs2 ++ [sFoot])).map tl)) := sc_ok fun q hq => by
      obtain ⟨r, hr, rfl⟩ := List.mem_map.mp hq
      rcases List.mem_cons.mp hr with rfl | hr
      · decide +kernel
      · rcases List.mem_append.mp hr with hr | hr
        · have := (hrl r hr).1
          omega
        · have : r = sFoot := by simpa using hr
          rw [this]
          decide +kernel
    have htold : Told (sHdr :: (rs2 ++ [sFoot])) i d := told_rows hrs (by rw [List.length_map]; exact hl2) hs1 hs2 hat hspot (fun j q hq => by
      rw [List.getElem?_map] at hq
      cases e : rs2[j]? with
      | none => rw [e] at hq; cases hq
      | some r =>
        rw [e] at hq
        obtain rfl := Option.some.inj hq
        exact hrow j r e) hd (by omega)
    have hstr : ∀ e, d = some e → PyData.strOk e.2.2 = true := fun e ee => by
      rw [ee] at hd
      rcases mem_due.mp hd.1 with ⟨_, rfl⟩ | ⟨_, rfl⟩ | ⟨_, _, rfl⟩ | ⟨_, _, _, rfl⟩
      · exact str_sign
      · exact str_sign
      · exact str_sign
      · exact str_word
    refine ⟨tx, _, i, v, d, rfl, by omega, hv, hFit, by simp, hsc, htold, hstr, fun H22 s22 => ⟨_, rfl, ?_⟩⟩
    refine iteF ?_
    refine ⟨by show 3 ≤ sizeLine; decide, fun T0 hT0 => ?_⟩
    refine ⟨by show 2 ≤ sizeLine; decide, fun L2 hL2 => ?_⟩
    have hL2T : T0 ≠ L2 := fun z => by rw [← z, upd_same] at hL2; cases hL2
    have hat2 : ∃ u : V, atI [V.non, V.ref T0] (if decide ((299 : Int) < ((bl : Nat) : Int)) = true then 1 else 0) = some u ∧ DueV (upd (upd H22 T0 (.tup [.int 301, .int 1, .str (Str.ofString "sign")])) L2 (.lst [.non, .ref T0])) u (blankDue bl) := by
      unfold blankDue
      by_cases c : bl > 299
      · rw [if_pos (decide_eq_true (by omega)), if_pos c]
        exact ⟨_, atI_nat (j := 1) rfl, T0, rfl, by rw [upd_ne hL2T, upd_same]; rfl⟩
      · rw [if_neg (fun z => c (by have := of_decide_eq_true z; omega)), if_neg c]
        exact ⟨_, atI_nat (j := 0) rfl, rfl⟩
    obtain ⟨u, hu1, hu2⟩ := hat2
    refine ⟨_, rfl, _, _, rfl, rfl, .inr ⟨_, rfl, L2, _, _, _, rfl, rfl, SqL.of upd_same, hu1, ?_⟩⟩
    refine ⟨_, rfl, _, _, rfl, rfl, by omega, by omega, by rw [hln]; decide, by rw [hln]; decide, _, _, rfl, rfl, ?_, _, rfl, _, rfl, ?_⟩
    · rw [repS_length, hln, sizeLine_eq]
      have : (Str.ofString "kind A under Thing end").length = 22 := by decide +kernel
      rw [this]
      omega
    have ez : tl (Str.ofString "kind A under Thing end" ++ repS (Str.ofString "\n") ((bl : Nat) : Int)) = tl sKA ++ List.replicate bl 10 := by
      rw [tl_add]
      congr 1
      show (List.replicate ((bl : Nat) : Int).toNat (Str.ofString "\n").cps.toList).flatten.toArray.toList = _
      have e : (Str.ofString "\n").cps.toList = [10] := by decide +kernel
      rw [e]
      simp
    have hrs2 : (sKA :: List.replicate bl Str.empty).map tl = cKA :: List.replicate bl [] := by
      rw [List.map_cons, List.map_replicate]
      rfl
    have hsc2 : ScOk (scan isWord ((sKA :: List.replicate bl Str.empty).map tl)) := by
      rw [hrs2]
      refine sc_ok fun q hq => ?_
      rcases List.mem_cons.mp hq with rfl | hq
      · decide +kernel
      · obtain rfl := (List.mem_replicate.mp hq).2
        decide
    refine ⟨_, _, i, u, blankDue bl, rfl, by omega, hu2, fits_blank ez hb2, by simp, hsc2, told_blank hrs2 (by omega), fun e ee => ?_, fun H23 s23 => ⟨_, rfl, ?_⟩⟩
    · unfold blankDue at ee
      split at ee
      · obtain rfl := Option.some.inj ee
        decide +kernel
      · cases ee
    refine iteF ⟨_, _, rfl⟩
  · rintro σ H20 ⟨v10, v11, rfl⟩
    exact k _
end
end My
namespace My
open PySem L2 SS
theorem vals_strs : ∀ (zs : List Str) (us : List Value), us.map (fun u => match u with | .str z _ => some z | _ => none) = zs.map some → Vals (zs.map V.str) us
  | [], [], _ => .nil
  | [], u :: us, h => by simp at h
  | z :: zs, [], h => by simp at h
  | z :: zs, u :: us, h => by
    rw [List.map_cons, List.map_cons] at h
    injection h with h1 h2
    refine .cons ?_ (vals_strs zs us h2)
    cases u with
    | str y t =>
      obtain rfl := Option.some.inj h1
      exact ⟨t, rfl⟩
    | _ => cases h1
theorem exm_self {K : PySem.W.Frag} {S : Addr} (h1 : PySem.W.subIn K (.ref S) (.type "BaseException") = some true) (h2 : PySem.W.isClsIn K S = true) (h3 : PySem.W.typeIn K (.ref S) = some (.type "type")) (h4 : PySem.W.subIn K (.ref S) (.ref S) = some true) :
    PySem.W.exmOne K (.ref S) (.ref S) = some true := by
  have e1 : (PySem.W.subIn K (.ref S) (.type "BaseException") == some true) = true := by rw [h1] <;> rfl
  have e2 : ((PySem.W.clsIn K S).isSome && PySem.W.typeIn K (.ref S) == some (.type "type")) = true := by
    have h2' : (PySem.W.clsIn K S).isSome = true := h2
    rw [h2', h3] <;> rfl
  show (if (PySem.W.subIn K (.ref S) (.type "BaseException") == some true) = true then (if ((PySem.W.clsIn K S).isSome && PySem.W.typeIn K (.ref S) == some (.type "type")) = true then PySem.W.subIn K (.ref S) (.ref S) else none) else none) = some true
  rw [if_pos e1, if_pos e2]
  exact h4
/-- two defs of two names stand at two places -/
def nameAt : Option Obj → Str
  | some ⟨_, _, .func fd, _⟩ => fd.name
  | _ => ""
theorem two_places {o1 o2 : Option Obj} (h : nameAt o1 ≠ nameAt o2) : o1 ≠ o2 := fun e => h (by rw [e])

theorem all_mk {l : PySem.W.OpenLaw} {w : World} {K : PySem.W.Frag} {h : Heap} {mg : Str → Option Value} {fa : Addr} (X : K.In h) (G : h.Ns mainGlobals mg) (hfa : mg "law" = some (.ref fa))
    {f0 : Addr} {oc0 kV0 dc0 pm0 cd0 ct0 : Value} {od0 an0 : Option Addr} {sl0 : Array (Option Value)}
    {f1 : Addr} {oc1 kV1 dc1 pm1 cd1 ct1 : Value} {od1 an1 : Option Addr} {sl1 : Array (Option Value)}
    {f2 : Addr} {oc2 kV2 dc2 pm2 cd2 ct2 : Value} {od2 an2 : Option Addr} {sl2 : Array (Option Value)}
    {f3 : Addr} {oc3 kV3 dc3 pm3 cd3 ct3 : Value} {od3 an3 : Option Addr} {sl3 : Array (Option Value)}
    {f4 : Addr} {oc4 kV4 dc4 pm4 cd4 ct4 : Value} {od4 an4 : Option Addr} {sl4 : Array (Option Value)}
    {f5 : Addr} {oc5 kV5 dc5 pm5 cd5 ct5 : Value} {od5 an5 : Option Addr} {sl5 : Array (Option Value)}
    {f6 : Addr} {oc6 kV6 dc6 pm6 cd6 ct6 : Value} {od6 an6 : Option Addr} {sl6 : Array (Option Value)}
    {f7 : Addr} {oc7 kV7 dc7 pm7 cd7 ct7 : Value} {od7 an7 : Option Addr} {sl7 : Array (Option Value)}
    {f8 : Addr} {oc8 kV8 dc8 pm8 cd8 ct8 : Value} {od8 an8 : Option Addr} {sl8 : Array (Option Value)}
    {f9 : Addr} {oc9 kV9 dc9 pm9 cd9 ct9 : Value} {od9 an9 : Option Addr} {sl9 : Array (Option Value)}
    {f10 : Addr} {oc10 kV10 dc10 pm10 cd10 ct10 : Value} {od10 an10 : Option Addr} {sl10 : Array (Option Value)}
    {f11 : Addr} {oc11 kV11 dc11 pm11 cd11 ct11 : Value} {od11 an11 : Option Addr} {sl11 : Array (Option Value)}
    {f12 : Addr} {oc12 kV12 dc12 pm12 cd12 ct12 : Value} {od12 an12 : Option Addr} {sl12 : Array (Option Value)}
    {f13 : Addr} {oc13 kV13 dc13 pm13 cd13 ct13 : Value} {od13 an13 : Option Addr} {sl13 : Array (Option Value)}
    {f14 : Addr} {oc14 kV14 dc14 pm14 cd14 ct14 : Value} {od14 an14 : Option Addr} {sl14 : Array (Option Value)}
    {f15 : Addr} {oc15 kV15 dc15 pm15 cd15 ct15 : Value} {od15 an15 : Option Addr} {sl15 : Array (Option Value)}
    {f16 : Addr} {oc16 kV16 dc16 pm16 cd16 ct16 : Value} {od16 an16 : Option Addr} {sl16 : Array (Option Value)}
    {f17 : Addr} {oc17 kV17 dc17 pm17 cd17 ct17 : Value} {od17 an17 : Option Addr} {sl17 : Array (Option Value)}
    {f18 : Addr} {oc18 kV18 dc18 pm18 cd18 ct18 : Value} {od18 an18 : Option Addr} {sl18 : Array (Option Value)}
    {f19 : Addr} {oc19 kV19 dc19 pm19 cd19 ct19 : Value} {od19 an19 : Option Addr} {sl19 : Array (Option Value)}
    {f20 : Addr} {oc20 kV20 dc20 pm20 cd20 ct20 : Value} {od20 an20 : Option Addr} {sl20 : Array (Option Value)}
    {f21 : Addr} {oc21 kV21 dc21 pm21 cd21 ct21 : Value} {od21 an21 : Option Addr} {sl21 : Array (Option Value)}
    {f22 : Addr} {oc22 kV22 dc22 pm22 cd22 ct22 : Value} {od22 an22 : Option Addr} {sl22 : Array (Option Value)}
    {R CP S CF : Addr}
    {g0 : Addr} {goc0 gkV0 gdc0 gpm0 gcd0 gct0 : Value} {god0 gan0 : Option Addr} {gsl0 : Array (Option Value)}
    {g1 : Addr} {goc1 gkV1 gdc1 gpm1 gcd1 gct1 : Value} {god1 gan1 : Option Addr} {gsl1 : Array (Option Value)}
    {g2 : Addr} {goc2 gkV2 gdc2 gpm2 gcd2 gct2 : Value} {god2 gan2 : Option Addr} {gsl2 : Array (Option Value)}
    {g3 : Addr} {goc3 gkV3 gdc3 gpm3 gcd3 gct3 : Value} {god3 gan3 : Option Addr} {gsl3 : Array (Option Value)}
    {g4 : Addr} {goc4 gkV4 gdc4 gpm4 gcd4 gct4 : Value} {god4 gan4 : Option Addr} {gsl4 : Array (Option Value)}
    {g5 : Addr} {goc5 gkV5 gdc5 gpm5 gcd5 gct5 : Value} {god5 gan5 : Option Addr} {gsl5 : Array (Option Value)}
    {g8 : Addr} {goc8 gkV8 gdc8 gpm8 gcd8 gct8 : Value} {god8 gan8 : Option Addr} {gsl8 : Array (Option Value)}
    {g9 : Addr} {goc9 gkV9 gdc9 gpm9 gcd9 gct9 : Value} {god9 gan9 : Option Addr} {gsl9 : Array (Option Value)}
    {g10 : Addr} {goc10 gkV10 gdc10 gpm10 gcd10 gct10 : Value} {god10 gan10 : Option Addr} {gsl10 : Array (Option Value)}
    {g12 : Addr} {goc12 gkV12 gdc12 gpm12 gcd12 gct12 : Value} {god12 gan12 : Option Addr} {gsl12 : Array (Option Value)}
    {g13 : Addr} {goc13 gkV13 gdc13 gpm13 gcd13 gct13 : Value} {god13 gan13 : Option Addr} {gsl13 : Array (Option Value)}
    {g14 : Addr} {goc14 gkV14 gdc14 gpm14 gcd14 gct14 : Value} {god14 gan14 : Option Addr} {gsl14 : Array (Option Value)}
    {g15 : Addr} {goc15 gkV15 gdc15 gpm15 gcd15 gct15 : Value} {god15 gan15 : Option Addr} {gsl15 : Array (Option Value)}
    {g16 : Addr} {goc16 gkV16 gdc16 gpm16 gcd16 gct16 : Value} {god16 gan16 : Option Addr} {gsl16 : Array (Option Value)}
    {g17 : Addr} {goc17 gkV17 gdc17 gpm17 gcd17 gct17 : Value} {god17 gan17 : Option Addr} {gsl17 : Array (Option Value)}
    {g22 : Addr} {goc22 gkV22 gdc22 gpm22 gcd22 gct22 : Value} {god22 gan22 : Option Addr} {gsl22 : Array (Option Value)}
    {gP : Addr} {gocP gkVP gdcP gpmP gcdP gctP : Value} {godP ganP : Option Addr} {gslP : Array (Option Value)}
    {nm q : Str} {N : Addr} {bs bm : List Value} {sn : List Str} {sub : List Value} {ab : Bool} {col : Option Bool} {dd : Option Addr} {m0_ m1_ m2_ m3_ m5_ : Option Value}
    {fI fS T : Addr} {ioc ikV idc ipm icd ict soc skV sdc spm scd sct : Value} {iod ian sod san : Option Addr} {isl ssl : Array (Option Value)} {tO : Obj} {tI : List Value} {tn : Nat}
    {tbig : Tok}
    {trows : Tok}
    {tcols : Tok}
    {ttsig : Tok}
    {tnsig : Tok}
    {tsmall : Tok} {ssmall : Str}
    {tssig : Tok} {sssig : Str}
    {tksig : Tok} {sksig : Str}
    {tcaps : Tok} {scaps : Str}
    {tfigs : Tok} {sfigs : Str}
    {ttexts : Tok} {stexts : Str}
    {abr : Addr} {obr : Obj} {ibr : Array Value} {nbr : Nat}
    {amarks : Addr} {omarks : Obj} {imarks : Array Value} {nmarks : Nat}
    {akept : Addr} {okept : Obj} {ikept : Array Value} {nkept : Nat}
    {apls : Addr} {opls : Obj} {ipls : Array Value} {npls : Nat}
    (a0 : PySem.W.nsIn K mainGlobals "words_of" = some (some (.ref f0)))
    (l0 : K.lookup f0 = some ⟨oc0, od0, .func (PySem.W.fnOf "words_of" "words_of" (defArgs sWords) (defBody sWords) (defScope sWords) .none kV0 dc0 pm0 an0 cd0 ct0), sl0⟩)
    (c0 : PySem.W.codeIn K cd0 "words_of" = true)
    (k0 : PySem.W.keepIn K (.ref f0) = true)
    (a1 : PySem.W.nsIn K mainGlobals "scanned" = some (some (.ref f1)))
    (l1 : K.lookup f1 = some ⟨oc1, od1, .func (PySem.W.fnOf "scanned" "scanned" (defArgs sScanned) (defBody sScanned) (defScope sScanned) .none kV1 dc1 pm1 an1 cd1 ct1), sl1⟩)
    (c1 : PySem.W.codeIn K cd1 "scanned" = true)
    (k1 : PySem.W.keepIn K (.ref f1) = true)
    (a2 : PySem.W.nsIn K mainGlobals "words_of_row" = some (some (.ref f2)))
    (l2 : K.lookup f2 = some ⟨oc2, od2, .func (PySem.W.fnOf "words_of_row" "words_of_row" (defArgs sRow) (defBody sRow) (defScope sRow) .none kV2 dc2 pm2 an2 cd2 ct2), sl2⟩)
    (c2 : PySem.W.codeIn K cd2 "words_of_row" = true)
    (k2 : PySem.W.keepIn K (.ref f2) = true)
    (a3 : PySem.W.nsIn K mainGlobals "wrong_column" = some (some (.ref f3)))
    (l3 : K.lookup f3 = some ⟨oc3, od3, .func (PySem.W.fnOf "wrong_column" "wrong_column" (defArgs sWrong) (defBody sWrong) (defScope sWrong) .none kV3 dc3 pm3 an3 cd3 ct3), sl3⟩)
    (c3 : PySem.W.codeIn K cd3 "wrong_column" = true)
    (k3 : PySem.W.keepIn K (.ref f3) = true)
    (a4 : PySem.W.nsIn K mainGlobals "end_place" = some (some (.ref f4)))
    (l4 : K.lookup f4 = some ⟨oc4, od4, .func (PySem.W.fnOf "end_place" "end_place" (defArgs sEnd) (defBody sEnd) (defScope sEnd) .none kV4 dc4 pm4 an4 cd4 ct4), sl4⟩)
    (c4 : PySem.W.codeIn K cd4 "end_place" = true)
    (k4 : PySem.W.keepIn K (.ref f4) = true)
    (a5 : PySem.W.nsIn K mainGlobals "is_word" = some (some (.ref f5)))
    (l5 : K.lookup f5 = some ⟨oc5, od5, .func (PySem.W.fnOf "is_word" "is_word" (defArgs sIsWord) (defBody sIsWord) (defScope sIsWord) .none kV5 dc5 pm5 an5 cd5 ct5), sl5⟩)
    (c5 : PySem.W.codeIn K cd5 "is_word" = true)
    (k5 : PySem.W.keepIn K (.ref f5) = true)
    (a6 : PySem.W.nsIn K mainGlobals "is_small" = some (some (.ref f6)))
    (l6 : K.lookup f6 = some ⟨oc6, od6, .func (PySem.W.fnOf "is_small" "is_small" (defArgs sIsSmall) (defBody sIsSmall) (defScope sIsSmall) .none kV6 dc6 pm6 an6 cd6 ct6), sl6⟩)
    (c6 : PySem.W.codeIn K cd6 "is_small" = true)
    (k6 : PySem.W.keepIn K (.ref f6) = true)
    (a7 : PySem.W.nsIn K mainGlobals "is_free" = some (some (.ref f7)))
    (l7 : K.lookup f7 = some ⟨oc7, od7, .func (PySem.W.fnOf "is_free" "is_free" (defArgs sIsFree) (defBody sIsFree) (defScope sIsFree) .none kV7 dc7 pm7 an7 cd7 ct7), sl7⟩)
    (c7 : PySem.W.codeIn K cd7 "is_free" = true)
    (k7 : PySem.W.keepIn K (.ref f7) = true)
    (a8 : PySem.W.nsIn K mainGlobals "is_kind_name" = some (some (.ref f8)))
    (l8 : K.lookup f8 = some ⟨oc8, od8, .func (PySem.W.fnOf "is_kind_name" "is_kind_name" (defArgs sIsKind) (defBody sIsKind) (defScope sIsKind) .none kV8 dc8 pm8 an8 cd8 ct8), sl8⟩)
    (c8 : PySem.W.codeIn K cd8 "is_kind_name" = true)
    (k8 : PySem.W.keepIn K (.ref f8) = true)
    (a9 : PySem.W.nsIn K mainGlobals "is_name" = some (some (.ref f9)))
    (l9 : K.lookup f9 = some ⟨oc9, od9, .func (PySem.W.fnOf "is_name" "is_name" (defArgs sIsName) (defBody sIsName) (defScope sIsName) .none kV9 dc9 pm9 an9 cd9 ct9), sl9⟩)
    (c9 : PySem.W.codeIn K cd9 "is_name" = true)
    (k9 : PySem.W.keepIn K (.ref f9) = true)
    (a10 : PySem.W.nsIn K mainGlobals "is_text" = some (some (.ref f10)))
    (l10 : K.lookup f10 = some ⟨oc10, od10, .func (PySem.W.fnOf "is_text" "is_text" (defArgs sIsText) (defBody sIsText) (defScope sIsText) .none kV10 dc10 pm10 an10 cd10 ct10), sl10⟩)
    (c10 : PySem.W.codeIn K cd10 "is_text" = true)
    (k10 : PySem.W.keepIn K (.ref f10) = true)
    (a11 : PySem.W.nsIn K mainGlobals "is_number" = some (some (.ref f11)))
    (l11 : K.lookup f11 = some ⟨oc11, od11, .func (PySem.W.fnOf "is_number" "is_number" (defArgs sIsNum) (defBody sIsNum) (defScope sIsNum) .none kV11 dc11 pm11 an11 cd11 ct11), sl11⟩)
    (c11 : PySem.W.codeIn K cd11 "is_number" = true)
    (k11 : PySem.W.keepIn K (.ref f11) = true)
    (a12 : PySem.W.nsIn K mainGlobals "has_only" = some (some (.ref f12)))
    (l12 : K.lookup f12 = some ⟨oc12, od12, .func (PySem.W.fnOf "has_only" "has_only" (defArgs sHas) (defBody sHas) (defScope sHas) .none kV12 dc12 pm12 an12 cd12 ct12), sl12⟩)
    (c12 : PySem.W.codeIn K cd12 "has_only" = true)
    (k12 : PySem.W.keepIn K (.ref f12) = true)
    (a13 : PySem.W.nsIn K mainGlobals "reader_of" = some (some (.ref f13)))
    (l13 : K.lookup f13 = some ⟨oc13, od13, .func (PySem.W.fnOf "reader_of" "reader_of" (defArgs sRO) (defBody sRO) (defScope sRO) .none kV13 dc13 pm13 an13 cd13 ct13), sl13⟩)
    (c13 : PySem.W.codeIn K cd13 "reader_of" = true)
    (k13 : PySem.W.keepIn K (.ref f13) = true)
    (a14 : PySem.W.nsIn K mainGlobals "is_free_field" = some (some (.ref f14)))
    (l14 : K.lookup f14 = some ⟨oc14, od14, .func (PySem.W.fnOf "is_free_field" "is_free_field" (defArgs sFF) (defBody sFF) (defScope sFF) .none kV14 dc14 pm14 an14 cd14 ct14), sl14⟩)
    (c14 : PySem.W.codeIn K cd14 "is_free_field" = true)
    (k14 : PySem.W.keepIn K (.ref f14) = true)
    (a15 : PySem.W.nsIn K mainGlobals "leaf" = some (some (.ref f15)))
    (l15 : K.lookup f15 = some ⟨oc15, od15, .func (PySem.W.fnOf "leaf" "leaf" (defArgs sLeaf) (defBody sLeaf) (defScope sLeaf) .none kV15 dc15 pm15 an15 cd15 ct15), sl15⟩)
    (c15 : PySem.W.codeIn K cd15 "leaf" = true)
    (k15 : PySem.W.keepIn K (.ref f15) = true)
    (a16 : PySem.W.nsIn K mainGlobals "_law_deck" = some (some (.ref f16)))
    (l16 : K.lookup f16 = some ⟨oc16, od16, .func (PySem.W.fnOf "_law_deck" "_law_deck" (defArgs sDeck) (defBody sDeck) (defScope sDeck) .none kV16 dc16 pm16 an16 cd16 ct16), sl16⟩)
    (c16 : PySem.W.codeIn K cd16 "_law_deck" = true)
    (k16 : PySem.W.keepIn K (.ref f16) = true)
    (a17 : PySem.W.nsIn K mainGlobals "_law_next" = some (some (.ref f17)))
    (l17 : K.lookup f17 = some ⟨oc17, od17, .func (PySem.W.fnOf "_law_next" "_law_next" (defArgs sNext) (defBody sNext) (defScope sNext) .none kV17 dc17 pm17 an17 cd17 ct17), sl17⟩)
    (c17 : PySem.W.codeIn K cd17 "_law_next" = true)
    (k17 : PySem.W.keepIn K (.ref f17) = true)
    (a18 : PySem.W.nsIn K mainGlobals "_law_fault" = some (some (.ref f18)))
    (l18 : K.lookup f18 = some ⟨oc18, od18, .func (PySem.W.fnOf "_law_fault" "_law_fault" (defArgs sLF) (defBody sLF) (defScope sLF) .none kV18 dc18 pm18 an18 cd18 ct18), sl18⟩)
    (c18 : PySem.W.codeIn K cd18 "_law_fault" = true)
    (k18 : PySem.W.keepIn K (.ref f18) = true)
    (a19 : PySem.W.nsIn K mainGlobals "_law_row" = some (some (.ref f19)))
    (l19 : K.lookup f19 = some ⟨oc19, od19, .func (PySem.W.fnOf "_law_row" "_law_row" (defArgs sLRow) (defBody sLRow) (defScope sLRow) .none kV19 dc19 pm19 an19 cd19 ct19), sl19⟩)
    (c19 : PySem.W.codeIn K cd19 "_law_row" = true)
    (k19 : PySem.W.keepIn K (.ref f19) = true)
    (a20 : PySem.W.nsIn K mainGlobals "_law_due" = some (some (.ref f20)))
    (l20 : K.lookup f20 = some ⟨oc20, od20, .func (PySem.W.fnOf "_law_due" "_law_due" (defArgs sDue) (defBody sDue) (defScope sDue) .none kV20 dc20 pm20 an20 cd20 ct20), sl20⟩)
    (c20 : PySem.W.codeIn K cd20 "_law_due" = true)
    (k20 : PySem.W.keepIn K (.ref f20) = true)
    (a21 : PySem.W.nsIn K mainGlobals "_law_told_right" = some (some (.ref f21)))
    (l21 : K.lookup f21 = some ⟨oc21, od21, .func (PySem.W.fnOf "_law_told_right" "_law_told_right" (defArgs sTR) (defBody sTR) (defScope sTR) .none kV21 dc21 pm21 an21 cd21 ct21), sl21⟩)
    (c21 : PySem.W.codeIn K cd21 "_law_told_right" = true)
    (k21 : PySem.W.keepIn K (.ref f21) = true)
    (a22 : PySem.W.nsIn K mainGlobals "law" = some (some (.ref f22)))
    (l22 : K.lookup f22 = some ⟨oc22, od22, .func (PySem.W.fnOf "law" "law" (defArgs sLaw) (defBody sLaw) (defScope sLaw) .none kV22 dc22 pm22 an22 cd22 ct22), sl22⟩)
    (c22 : PySem.W.codeIn K cd22 "law" = true)
    (k22 : PySem.W.keepIn K (.ref f22) = true)
    (aR : PySem.W.nsIn K mainGlobals "Reader" = some (some (.ref R)))
    (aP : PySem.W.nsIn K mainGlobals "Page" = some (some (.ref CP)))
    (aS : PySem.W.nsIn K mainGlobals "SteadError" = some (some (.ref S)))
    (aF : PySem.W.nsIn K mainGlobals "Fault" = some (some (.ref CF)))
    (pgR : PySem.W.plainGet K R Str.empty = true)
    (hdR : PySem.W.hasDictIn K R = true)
    (poR : PySem.W.plainOver K R = true)
    (saR : PySem.W.findIn K (.ref R) "__setattr__" = some (some (.builtin "object.__setattr__")))
    (mkR : PySem.W.makesIn K R = true)
    (kcR : PySem.W.keepIn K (.ref R) = true)
    (pgP : PySem.W.plainGet K CP Str.empty = true)
    (hdP : PySem.W.hasDictIn K CP = true)
    (poP : PySem.W.plainOver K CP = true)
    (saP : PySem.W.findIn K (.ref CP) "__setattr__" = some (some (.builtin "object.__setattr__")))
    (mkP : PySem.W.makesIn K CP = true)
    (kcP : PySem.W.keepIn K (.ref CP) = true)
    (nR0 : PySem.W.findIn K (.ref R) "page" = some none)
    (nR1 : PySem.W.findIn K (.ref R) "words" = some none)
    (nR2 : PySem.W.findIn K (.ref R) "stop" = some none)
    (nR3 : PySem.W.findIn K (.ref R) "stop_why" = some none)
    (nR4 : PySem.W.findIn K (.ref R) "at" = some none)
    (nR5 : PySem.W.findIn K (.ref R) "many_open" = some none)
    (nR6 : PySem.W.findIn K (.ref R) "starts" = some none)
    (nR7 : PySem.W.findIn K (.ref R) "method_starts" = some none)
    (nR8 : PySem.W.findIn K (.ref R) "node_starts" = some none)
    (nP0 : PySem.W.findIn K (.ref CP) "name" = some none)
    (nP1 : PySem.W.findIn K (.ref CP) "text" = some none)
    (nP2 : PySem.W.findIn K (.ref CP) "trees" = some none)
    (nP3 : PySem.W.findIn K (.ref CP) "words" = some none)
    (nP4 : PySem.W.findIn K (.ref CP) "_starts" = some none)
    (b0 : PySem.W.findIn K (.ref R) "__init__" = some (some (.ref g0)))
    (i0 : PySem.W.isFn K (.ref g0) = true)
    (m0 : K.lookup g0 = some ⟨goc0, god0, .func (PySem.W.fnOf "__init__" "Reader.__init__" (defArgs (rd 0)) (defBody (rd 0)) (defScope (rd 0)) .none gkV0 gdc0 gpm0 gan0 gcd0 gct0), gsl0⟩)
    (d0 : PySem.W.codeIn K gcd0 "Reader.__init__" = true)
    (e0 : PySem.W.keepIn K (.ref g0) = true)
    (b1 : PySem.W.findIn K (.ref R) "word" = some (some (.ref g1)))
    (i1 : PySem.W.isFn K (.ref g1) = true)
    (m1 : K.lookup g1 = some ⟨goc1, god1, .func (PySem.W.fnOf "word" "Reader.word" (defArgs (rd 1)) (defBody (rd 1)) (defScope (rd 1)) .none gkV1 gdc1 gpm1 gan1 gcd1 gct1), gsl1⟩)
    (d1 : PySem.W.codeIn K gcd1 "Reader.word" = true)
    (e1 : PySem.W.keepIn K (.ref g1) = true)
    (b2 : PySem.W.findIn K (.ref R) "refuse_stop" = some (some (.ref g2)))
    (i2 : PySem.W.isFn K (.ref g2) = true)
    (m2 : K.lookup g2 = some ⟨goc2, god2, .func (PySem.W.fnOf "refuse_stop" "Reader.refuse_stop" (defArgs (rd 2)) (defBody (rd 2)) (defScope (rd 2)) .none gkV2 gdc2 gpm2 gan2 gcd2 gct2), gsl2⟩)
    (d2 : PySem.W.codeIn K gcd2 "Reader.refuse_stop" = true)
    (e2 : PySem.W.keepIn K (.ref g2) = true)
    (b3 : PySem.W.findIn K (.ref R) "refuse" = some (some (.ref g3)))
    (i3 : PySem.W.isFn K (.ref g3) = true)
    (m3 : K.lookup g3 = some ⟨goc3, god3, .func (PySem.W.fnOf "refuse" "Reader.refuse" (defArgs (rd 3)) (defBody (rd 3)) (defScope (rd 3)) .none gkV3 gdc3 gpm3 gan3 gcd3 gct3), gsl3⟩)
    (d3 : PySem.W.codeIn K gcd3 "Reader.refuse" = true)
    (e3 : PySem.W.keepIn K (.ref g3) = true)
    (b4 : PySem.W.findIn K (.ref R) "skip" = some (some (.ref g4)))
    (i4 : PySem.W.isFn K (.ref g4) = true)
    (m4 : K.lookup g4 = some ⟨goc4, god4, .func (PySem.W.fnOf "skip" "Reader.skip" (defArgs (rd 4)) (defBody (rd 4)) (defScope (rd 4)) .none gkV4 gdc4 gpm4 gan4 gcd4 gct4), gsl4⟩)
    (d4 : PySem.W.codeIn K gcd4 "Reader.skip" = true)
    (e4 : PySem.W.keepIn K (.ref g4) = true)
    (b5 : PySem.W.findIn K (.ref R) "take" = some (some (.ref g5)))
    (i5 : PySem.W.isFn K (.ref g5) = true)
    (m5 : K.lookup g5 = some ⟨goc5, god5, .func (PySem.W.fnOf "take" "Reader.take" (defArgs (rd 5)) (defBody (rd 5)) (defScope (rd 5)) .none gkV5 gdc5 gpm5 gan5 gcd5 gct5), gsl5⟩)
    (d5 : PySem.W.codeIn K gcd5 "Reader.take" = true)
    (e5 : PySem.W.keepIn K (.ref g5) = true)
    (b8 : PySem.W.findIn K (.ref R) "page_trees" = some (some (.ref g8)))
    (i8 : PySem.W.isFn K (.ref g8) = true)
    (m8 : K.lookup g8 = some ⟨goc8, god8, .func (PySem.W.fnOf "page_trees" "Reader.page_trees" (defArgs (rd 8)) (defBody (rd 8)) (defScope (rd 8)) .none gkV8 gdc8 gpm8 gan8 gcd8 gct8), gsl8⟩)
    (d8 : PySem.W.codeIn K gcd8 "Reader.page_trees" = true)
    (e8 : PySem.W.keepIn K (.ref g8) = true)
    (b9 : PySem.W.findIn K (.ref R) "tree" = some (some (.ref g9)))
    (i9 : PySem.W.isFn K (.ref g9) = true)
    (m9 : K.lookup g9 = some ⟨goc9, god9, .func (PySem.W.fnOf "tree" "Reader.tree" (defArgs (rd 9)) (defBody (rd 9)) (defScope (rd 9)) .none gkV9 gdc9 gpm9 gan9 gcd9 gct9), gsl9⟩)
    (d9 : PySem.W.codeIn K gcd9 "Reader.tree" = true)
    (e9 : PySem.W.keepIn K (.ref g9) = true)
    (b10 : PySem.W.findIn K (.ref R) "kind" = some (some (.ref g10)))
    (i10 : PySem.W.isFn K (.ref g10) = true)
    (m10 : K.lookup g10 = some ⟨goc10, god10, .func (PySem.W.fnOf "kind" "Reader.kind" (defArgs (rd 10)) (defBody (rd 10)) (defScope (rd 10)) .none gkV10 gdc10 gpm10 gan10 gcd10 gct10), gsl10⟩)
    (d10 : PySem.W.codeIn K gcd10 "Reader.kind" = true)
    (e10 : PySem.W.keepIn K (.ref g10) = true)
    (b12 : PySem.W.findIn K (.ref R) "methods" = some (some (.ref g12)))
    (i12 : PySem.W.isFn K (.ref g12) = true)
    (m12 : K.lookup g12 = some ⟨goc12, god12, .func (PySem.W.fnOf "methods" "Reader.methods" (defArgs (rd 12)) (defBody (rd 12)) (defScope (rd 12)) .none gkV12 gdc12 gpm12 gan12 gcd12 gct12), gsl12⟩)
    (d12 : PySem.W.codeIn K gcd12 "Reader.methods" = true)
    (e12 : PySem.W.keepIn K (.ref g12) = true)
    (b13 : PySem.W.findIn K (.ref R) "method" = some (some (.ref g13)))
    (i13 : PySem.W.isFn K (.ref g13) = true)
    (m13 : K.lookup g13 = some ⟨goc13, god13, .func (PySem.W.fnOf "method" "Reader.method" (defArgs (rd 13)) (defBody (rd 13)) (defScope (rd 13)) .none gkV13 gdc13 gpm13 gan13 gcd13 gct13), gsl13⟩)
    (d13 : PySem.W.codeIn K gcd13 "Reader.method" = true)
    (e13 : PySem.W.keepIn K (.ref g13) = true)
    (b14 : PySem.W.findIn K (.ref R) "free_words" = some (some (.ref g14)))
    (i14 : PySem.W.isFn K (.ref g14) = true)
    (m14 : K.lookup g14 = some ⟨goc14, god14, .func (PySem.W.fnOf "free_words" "Reader.free_words" (defArgs (rd 14)) (defBody (rd 14)) (defScope (rd 14)) .none gkV14 gdc14 gpm14 gan14 gcd14 gct14), gsl14⟩)
    (d14 : PySem.W.codeIn K gcd14 "Reader.free_words" = true)
    (e14 : PySem.W.keepIn K (.ref g14) = true)
    (b15 : PySem.W.findIn K (.ref R) "statements" = some (some (.ref g15)))
    (i15 : PySem.W.isFn K (.ref g15) = true)
    (m15 : K.lookup g15 = some ⟨goc15, god15, .func (PySem.W.fnOf "statements" "Reader.statements" (defArgs (rd 15)) (defBody (rd 15)) (defScope (rd 15)) .none gkV15 gdc15 gpm15 gan15 gcd15 gct15), gsl15⟩)
    (d15 : PySem.W.codeIn K gcd15 "Reader.statements" = true)
    (e15 : PySem.W.keepIn K (.ref g15) = true)
    (b16 : PySem.W.findIn K (.ref R) "statement" = some (some (.ref g16)))
    (i16 : PySem.W.isFn K (.ref g16) = true)
    (m16 : K.lookup g16 = some ⟨goc16, god16, .func (PySem.W.fnOf "statement" "Reader.statement" (defArgs (rd 16)) (defBody (rd 16)) (defScope (rd 16)) .none gkV16 gdc16 gpm16 gan16 gcd16 gct16), gsl16⟩)
    (d16 : PySem.W.codeIn K gcd16 "Reader.statement" = true)
    (e16 : PySem.W.keepIn K (.ref g16) = true)
    (b17 : PySem.W.findIn K (.ref R) "new_worth" = some (some (.ref g17)))
    (i17 : PySem.W.isFn K (.ref g17) = true)
    (m17 : K.lookup g17 = some ⟨goc17, god17, .func (PySem.W.fnOf "new_worth" "Reader.new_worth" (defArgs (rd 17)) (defBody (rd 17)) (defScope (rd 17)) .none gkV17 gdc17 gpm17 gan17 gcd17 gct17), gsl17⟩)
    (d17 : PySem.W.codeIn K gcd17 "Reader.new_worth" = true)
    (e17 : PySem.W.keepIn K (.ref g17) = true)
    (b22 : PySem.W.findIn K (.ref R) "expression" = some (some (.ref g22)))
    (i22 : PySem.W.isFn K (.ref g22) = true)
    (m22 : K.lookup g22 = some ⟨goc22, god22, .func (PySem.W.fnOf "expression" "Reader.expression" (defArgs (rd 22)) (defBody (rd 22)) (defScope (rd 22)) .none gkV22 gdc22 gpm22 gan22 gcd22 gct22), gsl22⟩)
    (d22 : PySem.W.codeIn K gcd22 "Reader.expression" = true)
    (e22 : PySem.W.keepIn K (.ref g22) = true)
    (bP_ : PySem.W.findIn K (.ref CP) "__init__" = some (some (.ref gP)))
    (iP : PySem.W.isFn K (.ref gP) = true)
    (mP : K.lookup gP = some ⟨gocP, godP, .func (PySem.W.fnOf "__init__" "Page.__init__" (defArgs sPg) (defBody sPg) (defScope sPg) .none gkVP gdcP gpmP ganP gcdP gctP), gslP⟩)
    (dP : PySem.W.codeIn K gcdP "Page.__init__" = true)
    (eP : PySem.W.keepIn K (.ref gP) = true)
    (xF : K.lookup CF = some (excClassObj nm q CF N bs bm true sn sub ab col dd m0_ m1_ m2_ m3_ m5_ "ValueError.__new__"))
    (xB : PySem.HandSPX.refsVE bm = true)
    (sF : PySem.W.findIn K (.ref CF) "__setattr__" = some (some (.builtin "object.__setattr__")))
    (gF : PySem.W.findIn K (.ref CF) "__getattribute__" = some (some (.builtin "BaseException.__getattribute__")))
    (ggF : PySem.W.findIn K (.ref CF) "__getattr__" = some none)
    (eF : PySem.W.subIn K (.ref CF) (.type "BaseException") = some true)
    (tF : PySem.W.typeIn K (.ref CF) = some (.type "type"))
    (kF : PySem.W.keepIn K (.ref CF) = true)
    (hF : PySem.W.hasDictIn K CF = true)
    (isF : PySem.W.isClsIn K CF = true)
    (ssF : PySem.W.subIn K (.ref CF) (.ref CF) = some true)
    (nF0 : PySem.W.findIn K (.ref CF) "page" = some none)
    (nF1 : PySem.W.findIn K (.ref CF) "row" = some none)
    (nF2 : PySem.W.findIn K (.ref CF) "column" = some none)
    (nF3 : PySem.W.findIn K (.ref CF) "why" = some none)
    (iF : PySem.W.findIn K (.ref CF) "__init__" = some (some (.ref fI)))
    (tI_ : PySem.W.typeIn K (.ref fI) = some (.type "function"))
    (lI : K.lookup fI = some ⟨ioc, iod, .func (PySem.W.fnOf "__init__" "Fault.__init__" (defArgs sFault) (defBody sFault) (defScope sFault) .none ikV idc ipm ian icd ict), isl⟩)
    (cI : PySem.W.codeIn K icd "Fault.__init__" = true)
    (kI : PySem.W.keepIn K (.ref fI) = true)
    (vV : PySem.W.findCls K (.type "ValueError") (.type "type") "__init__" = some (.val (.builtin "ValueError.__init__")))
    (rdS : PySem.W.readsIn K S (.type "type") = true)
    (gaS : PySem.W.specialIn K (.ref S) "__getattribute__" = some (some (.builtin "type.__getattribute__")))
    (fS_ : PySem.W.findCls K (.ref S) (.type "type") "__init__" = some (.val (.ref fS)))
    (kS : PySem.W.keepIn K (.ref fS) = true)
    (lS : K.lookup fS = some ⟨soc, sod, .func (PySem.W.fnOf "__init__" "SteadError.__init__" (defArgs sSE) (defBody sSE) (defScope sSE) (.ref T) skV sdc spm san scd sct), ssl⟩)
    (cS : PySem.W.codeIn K scd "SteadError.__init__" = true)
    (lT : K.lookup T = some tO)
    (dT : tO.data = .seq tI.toArray tn)
    (vT : Vals [V.str (Str.ofString "refused")] tI)
    (zlen : PySem.W.nsIn K mainGlobals "len" = some none)
    (zall : PySem.W.nsIn K mainGlobals "all" = some none)
    (zmin : PySem.W.nsIn K mainGlobals "min" = some none)
    (ztup : PySem.W.nsIn K mainGlobals "tuple" = some none)
    (zint : PySem.W.nsIn K mainGlobals "int" = some none)
    (zstr : PySem.W.nsIn K mainGlobals "str" = some none)
    (zenum : PySem.W.nsIn K mainGlobals "enumerate" = some none)
    (zrange : PySem.W.nsIn K mainGlobals "range" = some none)
    (zVE : PySem.W.nsIn K mainGlobals "ValueError" = some none)
    (vbig : PySem.W.nsIn K mainGlobals "BIG" = some (some (.int 1000000000000 tbig)))
    (vrows : PySem.W.nsIn K mainGlobals "MOST_ROWS" = some (some (.int 300 trows)))
    (vcols : PySem.W.nsIn K mainGlobals "MOST_COLUMNS" = some (some (.int 120 tcols)))
    (vtsig : PySem.W.nsIn K mainGlobals "MOST_TEXT_SIGNS" = some (some (.int 40 ttsig)))
    (vnsig : PySem.W.nsIn K mainGlobals "MOST_NAME_SIGNS" = some (some (.int 12 tnsig)))
    (vssig : PySem.W.nsIn K mainGlobals "SMALL_SIGNS" = some (some (.str sssig tssig)))
    (essig : sssig = mk (SMALL ++ FIGS))
    (vksig : PySem.W.nsIn K mainGlobals "KIND_SIGNS" = some (some (.str sksig tksig)))
    (eksig : sksig = mk (SMALL ++ CAPS ++ FIGS))
    (vsmall : PySem.W.nsIn K mainGlobals "SMALL" = some (some (.str ssmall tsmall)))
    (esmall : ssmall = mk SMALL)
    (vcaps : PySem.W.nsIn K mainGlobals "CAPITALS" = some (some (.str scaps tcaps)))
    (ecaps : scaps = mk CAPS)
    (vfigs : PySem.W.nsIn K mainGlobals "FIGURES" = some (some (.str sfigs tfigs)))
    (efigs : sfigs = mk FIGS)
    (vtexts : PySem.W.nsIn K mainGlobals "TEXT_SIGNS" = some (some (.str stexts ttexts)))
    (etexts : stexts = mk TEXTS)
    (vbr : PySem.W.nsIn K mainGlobals "BRACKETS" = some (some (.ref abr)))
    (lbr : K.lookup abr = some obr)
    (ybr : obr.cls = .type "tuple")
    (wbr : obr.data = .seq ibr nbr)
    (sbr : ibr.size ≤ sizeLine)
    (ubr : Vals (BRs.map V.str) ibr.toList)
    (vmarks : PySem.W.nsIn K mainGlobals "MARKS" = some (some (.ref amarks)))
    (lmarks : K.lookup amarks = some omarks)
    (ymarks : omarks.cls = .type "tuple")
    (wmarks : omarks.data = .seq imarks nmarks)
    (smarks : imarks.size ≤ sizeLine)
    (umarks : Vals (MARKs.map V.str) imarks.toList)
    (vkept : PySem.W.nsIn K mainGlobals "KEPT" = some (some (.ref akept)))
    (lkept : K.lookup akept = some okept)
    (ykept : okept.cls = .type "tuple")
    (wkept : okept.data = .seq ikept nkept)
    (skept : ikept.size ≤ sizeLine)
    (ukept : Vals (KEPTs.map V.str) ikept.toList)
    (vpls : PySem.W.nsIn K mainGlobals "PLAIN_STATEMENTS" = some (some (.ref apls)))
    (lpls : K.lookup apls = some opls)
    (ypls : opls.cls = .type "tuple")
    (wpls : opls.data = .seq ipls npls)
    (spls : ipls.size ≤ sizeLine)
    (upls : Vals (PLs.map V.str) ipls.toList)
    : ∃ fd : FuncData, (∀ (s : Shared) (v : Value), BindsTo s fd ⟨[v], []⟩ [("_law_script", v)]) ∧ ∀ base : Heap, K.In base → base.Ns mainGlobals mg → FnOk l.prog w K mg base CX0 20 fa fd ["_law_script"] (spLaw K) := by
  have e := hfa.symm.trans (PySem.W.mg_of X G a22)
  cases e
  have D0 : Dn K mg "words_of" sWords := ⟨⟨f0, _, fun_mk l0 c0 k0, PySem.W.mg_of X G a0⟩⟩
  have D1 : Dn K mg "scanned" sScanned := ⟨⟨f1, _, fun_mk l1 c1 k1, PySem.W.mg_of X G a1⟩⟩
  have D2 : Dn K mg "words_of_row" sRow := ⟨⟨f2, _, fun_mk l2 c2 k2, PySem.W.mg_of X G a2⟩⟩
  have D3 : Dn K mg "wrong_column" sWrong := ⟨⟨f3, _, fun_mk l3 c3 k3, PySem.W.mg_of X G a3⟩⟩
  have D4 : Dn K mg "end_place" sEnd := ⟨⟨f4, _, fun_mk l4 c4 k4, PySem.W.mg_of X G a4⟩⟩
  have D5 : Dn K mg "is_word" sIsWord := ⟨⟨f5, _, fun_mk l5 c5 k5, PySem.W.mg_of X G a5⟩⟩
  have D6 : Dn K mg "is_small" sIsSmall := ⟨⟨f6, _, fun_mk l6 c6 k6, PySem.W.mg_of X G a6⟩⟩
  have D7 : Dn K mg "is_free" sIsFree := ⟨⟨f7, _, fun_mk l7 c7 k7, PySem.W.mg_of X G a7⟩⟩
  have D8 : Dn K mg "is_kind_name" sIsKind := ⟨⟨f8, _, fun_mk l8 c8 k8, PySem.W.mg_of X G a8⟩⟩
  have D9 : Dn K mg "is_name" sIsName := ⟨⟨f9, _, fun_mk l9 c9 k9, PySem.W.mg_of X G a9⟩⟩
  have D10 : Dn K mg "is_text" sIsText := ⟨⟨f10, _, fun_mk l10 c10 k10, PySem.W.mg_of X G a10⟩⟩
  have D11 : Dn K mg "is_number" sIsNum := ⟨⟨f11, _, fun_mk l11 c11 k11, PySem.W.mg_of X G a11⟩⟩
  have D12 : Dn K mg "has_only" sHas := ⟨⟨f12, _, fun_mk l12 c12 k12, PySem.W.mg_of X G a12⟩⟩
  have D13 : Dn K mg "reader_of" sRO := ⟨⟨f13, _, fun_mk l13 c13 k13, PySem.W.mg_of X G a13⟩⟩
  have D14 : Dn K mg "is_free_field" sFF := ⟨⟨f14, _, fun_mk l14 c14 k14, PySem.W.mg_of X G a14⟩⟩
  have D15 : Dn K mg "leaf" sLeaf := ⟨⟨f15, _, fun_mk l15 c15 k15, PySem.W.mg_of X G a15⟩⟩
  have D16 : Dn K mg "_law_deck" sDeck := ⟨⟨f16, _, fun_mk l16 c16 k16, PySem.W.mg_of X G a16⟩⟩
  have D17 : Dn K mg "_law_next" sNext := ⟨⟨f17, _, fun_mk l17 c17 k17, PySem.W.mg_of X G a17⟩⟩
  have D18 : Dn K mg "_law_fault" sLF := ⟨⟨f18, _, fun_mk l18 c18 k18, PySem.W.mg_of X G a18⟩⟩
  have D19 : Dn K mg "_law_row" sLRow := ⟨⟨f19, _, fun_mk l19 c19 k19, PySem.W.mg_of X G a19⟩⟩
  have D20 : Dn K mg "_law_due" sDue := ⟨⟨f20, _, fun_mk l20 c20 k20, PySem.W.mg_of X G a20⟩⟩
  have D21 : Dn K mg "_law_told_right" sTR := ⟨⟨f21, _, fun_mk l21 c21 k21, PySem.W.mg_of X G a21⟩⟩
  have M1 : Dm K R "word" "Reader.word" (rd 1) := ⟨⟨g1, _, fun_mk m1 d1 e1, ⟨b1, i1, e1⟩⟩⟩
  have M2 : Dm K R "refuse_stop" "Reader.refuse_stop" (rd 2) := ⟨⟨g2, _, fun_mk m2 d2 e2, ⟨b2, i2, e2⟩⟩⟩
  have M3 : Dm K R "refuse" "Reader.refuse" (rd 3) := ⟨⟨g3, _, fun_mk m3 d3 e3, ⟨b3, i3, e3⟩⟩⟩
  have M4 : Dm K R "skip" "Reader.skip" (rd 4) := ⟨⟨g4, _, fun_mk m4 d4 e4, ⟨b4, i4, e4⟩⟩⟩
  have M5 : Dm K R "take" "Reader.take" (rd 5) := ⟨⟨g5, _, fun_mk m5 d5 e5, ⟨b5, i5, e5⟩⟩⟩
  have M8 : Dm K R "page_trees" "Reader.page_trees" (rd 8) := ⟨⟨g8, _, fun_mk m8 d8 e8, ⟨b8, i8, e8⟩⟩⟩
  have M9 : Dm K R "tree" "Reader.tree" (rd 9) := ⟨⟨g9, _, fun_mk m9 d9 e9, ⟨b9, i9, e9⟩⟩⟩
  have M10 : Dm K R "kind" "Reader.kind" (rd 10) := ⟨⟨g10, _, fun_mk m10 d10 e10, ⟨b10, i10, e10⟩⟩⟩
  have M12 : Dm K R "methods" "Reader.methods" (rd 12) := ⟨⟨g12, _, fun_mk m12 d12 e12, ⟨b12, i12, e12⟩⟩⟩
  have M13 : Dm K R "method" "Reader.method" (rd 13) := ⟨⟨g13, _, fun_mk m13 d13 e13, ⟨b13, i13, e13⟩⟩⟩
  have M14 : Dm K R "free_words" "Reader.free_words" (rd 14) := ⟨⟨g14, _, fun_mk m14 d14 e14, ⟨b14, i14, e14⟩⟩⟩
  have M15 : Dm K R "statements" "Reader.statements" (rd 15) := ⟨⟨g15, _, fun_mk m15 d15 e15, ⟨b15, i15, e15⟩⟩⟩
  have M16 : Dm K R "statement" "Reader.statement" (rd 16) := ⟨⟨g16, _, fun_mk m16 d16 e16, ⟨b16, i16, e16⟩⟩⟩
  have M17 : Dm K R "new_worth" "Reader.new_worth" (rd 17) := ⟨⟨g17, _, fun_mk m17 d17 e17, ⟨b17, i17, e17⟩⟩⟩
  have M22 : Dm K R "expression" "Reader.expression" (rd 22) := ⟨⟨g22, _, fun_mk m22 d22 e22, ⟨b22, i22, e22⟩⟩⟩
  have TS : TxS K mg := { len := PySem.W.mg_none_of X G zlen, all := PySem.W.mg_none_of X G zall, mn := PySem.W.mg_none_of X G zmin, tup := PySem.W.mg_none_of X G ztup, int := PySem.W.mg_none_of X G zint, str := PySem.W.mg_none_of X G zstr, enum := PySem.W.mg_none_of X G zenum, big := ⟨_, PySem.W.mg_of X G vbig, ⟨_, rfl⟩⟩, rows := ⟨_, PySem.W.mg_of X G vrows, ⟨_, rfl⟩⟩, cols := ⟨_, PySem.W.mg_of X G vcols, ⟨_, rfl⟩⟩, tsig := ⟨_, PySem.W.mg_of X G vtsig, ⟨_, rfl⟩⟩, nsig := ⟨_, PySem.W.mg_of X G vnsig, ⟨_, rfl⟩⟩, small := ⟨_, PySem.W.mg_of X G vsmall, ⟨_, by rw [esmall]⟩⟩, ssig := ⟨_, PySem.W.mg_of X G vssig, ⟨_, by rw [essig]⟩⟩, ksig := ⟨_, PySem.W.mg_of X G vksig, ⟨_, by rw [eksig]⟩⟩, caps := ⟨_, PySem.W.mg_of X G vcaps, ⟨_, by rw [ecaps]⟩⟩, figs := ⟨_, PySem.W.mg_of X G vfigs, ⟨_, by rw [efigs]⟩⟩, texts := ⟨_, PySem.W.mg_of X G vtexts, ⟨_, by rw [etexts]⟩⟩, br := ⟨_, PySem.W.mg_of X G vbr, fun _ => .inr ⟨_, _, _, lbr, ybr, wbr, sbr, ubr⟩⟩, marks := ⟨_, PySem.W.mg_of X G vmarks, fun _ => .inr ⟨_, _, _, lmarks, ymarks, wmarks, smarks, umarks⟩⟩, kept := ⟨_, PySem.W.mg_of X G vkept, fun _ => .inr ⟨_, _, _, lkept, ykept, wkept, skept, ukept⟩⟩ }
  have mPL : GT K mg "PLAIN_STATEMENTS" PLs := ⟨_, PySem.W.mg_of X G vpls, fun _ => .inr ⟨_, _, _, lpls, ypls, wpls, spls, upls⟩⟩
  have TL_ : TxL mg := ⟨PySem.W.mg_none_of X G zrange, PySem.W.mg_none_of X G zmin⟩
  have TE : TxE K mg S CF fI fS := { gS := PySem.W.mg_of X G aS, gC := PySem.W.mg_of X G aF, gV := PySem.W.mg_none_of X G zVE, vV := vV, rS := ⟨rdS, gaS⟩, fndS := fS_, kS := kS, oC := ⟨⟨nm, q, N, bs, bm, sn, sub, ab, col, dd, m0_, m1_, m2_, m3_, m5_, xF, xB⟩, sF, eF, tF, kF⟩, iC := iF, tI := tI_, n1 := nF0, n2 := nF1, n3 := nF2, n4 := nF3, dS := ⟨_, ⟨⟨_, _, _, _, _, _, _, _, _, _, rfl, lS, cS, .inr ⟨by simp, T, tO, tI, tn, rfl, lT, dT, vT⟩, .inl rfl⟩, kS⟩⟩, dI := ⟨_, fun_mk lI cI kI⟩, xf := ⟨gF, ggF, eF, hF⟩, te := exm_self eF isF tF ssF }
  have TR : TxR K mg R := ⟨⟨pgR, hdR, poR, saR⟩, nR0, nR1, nR2, nR3, nR4, nR5, nR6, nR7, nR8⟩
  have TP : TxP K mg CP := ⟨⟨pgP, hdP, poP, saP⟩, nP0, nP1, nP2, nP3, nP4⟩
  have hne : f8 ≠ f7 := fun z => by
    have e : K.lookup f8 ≠ K.lookup f7 := by
      rw [l8, l7]
      exact two_places (show (Str.ofString "is_kind_name") ≠ (Str.ofString "is_free") by decide +kernel)
    exact e (by rw [z])
  refine ⟨PySem.W.fnOf "law" "law" (defArgs sLaw) (defBody sLaw) (defScope sLaw) .none kV22 dc22 pm22 an22 cd22 ct22, fun s v => .of_eq rfl, fun base _ _ => ?_⟩
  have Ghas : C0 l.prog w K mg base 1 "has_only" spHas := c_has TS D12
  have Gname : C0 l.prog w K mg base 2 "is_name" spName := c_name TS D9 Ghas
  have Gsmall : C0 l.prog w K mg base 3 "is_small" (spB isSmall) := c_small TS D6 Gname
  have Gkind : C0 l.prog w K mg base 3 "is_kind_name" (spB isKindName) := c_kind TS D8 Gname
  have Gtext : C0 l.prog w K mg base 2 "is_text" (spB isText) := c_text TS D10 Ghas
  have Gfree : C0 l.prog w K mg base 4 "is_free" (spB isFree) := c_free TS D7 Gsmall
  have Gnum : C0 l.prog w K mg base 2 "is_number" (spB isNum) := c_num TS D11 Ghas
  have Gword : C0 l.prog w K mg base 4 "is_word" (spB isWord) := c_word TS D5 Gsmall Gkind Gtext Gnum
  have Grow : C0 l.prog w K mg base 1 "words_of_row" spRow := c_row TS D2
  have Gwrong : C0 l.prog w K mg base 5 "wrong_column" spWrong := c_wrong TS D3 Gword
  have Gscan : C0 l.prog w K mg base 6 "scanned" spScan := c_scan TS D1 Grow Gwrong
  have Gep : C0 l.prog w K mg base 1 "end_place" spEP := c_ep TS D4
  have Gwof : Cc l.prog w K mg base (L2.CX l.prog w) 7 "words_of" (spWordsOf CF) := ⟨⟨f0, _, _, ok_wordsof (fun_mk l0 c0 k0) TS TE Gscan, PySem.W.mg_of X G a0, k0, (fun_mk l0 c0 k0).binds (ps := ["text"]) fun _ _ _ _ _ _ us hl => match us, hl with | [_], _ => rfl⟩⟩
  have Gff : C0 l.prog w K mg base 5 "is_free_field" (spB isFF) := c_ff D14 Gfree
  have Gleaf : C0 l.prog w K mg base 6 "leaf" spLeaf := c_leaf TS D15 Gnum Gfree Gff
  have Gro : C0 l.prog w K mg base 7 "reader_of" (spRO R) := c_ro TR D13 ⟨g0, _, ⟨mkR, b0, i0, kcR⟩, fun_mk m0 d0 e0⟩ (PySem.W.mg_of X G aR) Gscan Gep
  have Nrs : M0 l.prog w K mg base R 4 "refuse_stop" (spRS R CF) := m_rs TR TE M2
  have Nref : M0 l.prog w K mg base R 4 "refuse" (spRef R CF) := m_ref TR TE M3
  have Nwd : M0 l.prog w K mg base R 5 "word" (spWd R CF) := m_wd TR TS M1 Nrs
  have Nskip : M0 l.prog w K mg base R 6 "skip" (spSkip R CF) := m_skip TR M4 Nwd Nref
  have A : ∀ f sp, Sf f7 f8 f = some sp → Held l.prog w K mg base 4 f sp := fun f sp hs => by
    unfold Sf at hs
    obtain ⟨fa1, fda, psa, Fa, ma, ka, ba⟩ := Gfree.ex
    obtain ⟨fb1, fdb, psb, Fb, mb, kb, bb⟩ := Gkind.ex
    have ea : fa1 = f7 := by
      have := ma.symm.trans (PySem.W.mg_of X G a7)
      injection this with this
      injection this
    have eb : fb1 = f8 := by
      have := mb.symm.trans (PySem.W.mg_of X G a8)
      injection this with this
      injection this
    by_cases q1 : f = f7
    · rw [if_pos q1] at hs
      obtain rfl := Option.some.inj hs
      rw [q1, ← ea]
      exact ⟨fda, psa, Fa, ka, ba⟩
    · rw [if_neg q1] at hs
      by_cases q2 : f = f8
      · rw [if_pos q2] at hs
        obtain rfl := Option.some.inj hs
        rw [q2, ← eb]
        exact ⟨fdb, psb, Fb.mono (by decide), kb, bb⟩
      · rw [if_neg q2] at hs
        cases hs
  have Ntake : M0 l.prog w K mg base R 6 "take" (spTake R CF (Sf f7 f8)) := m_take TR M5 A Nwd Nref
  have Nex : M0 l.prog w K mg base R 7 "expression" (spEx R CF) := m_ex TR M22 Gleaf Nwd Nref
  have Nnw : M0 l.prog w K mg base R 8 "new_worth" (spNW R) := m_nw TR M17 Nskip Nex
  have Nst : M0 l.prog w K mg base R 9 "statement" (spSt R CF) := m_st (fF := f7) (fK := f8) TR M16 mPL (PySem.W.mg_of X G a7) Nwd Ntake Nex Nnw
  have Nsts : M0 l.prog w K mg base R 10 "statements" (spSts R CF) := m_sts TR TS M15 Nwd Nst
  have Nfw : M0 l.prog w K mg base R 6 "free_words" (spFw R) := m_fw TR TS M14 Nwd
  have Nme : M0 l.prog w K mg base R 11 "method" (spMe R CF) := m_me (fF := f7) (fK := f8) TR TS M13 (PySem.W.mg_of X G a7) Nskip Ntake Nfw Nsts
  have Nms : M0 l.prog w K mg base R 12 "methods" (spMs R CF) := m_ms TR TS M12 Nwd Nskip Nme
  have Nkd : M0 l.prog w K mg base R 13 "kind" (spKd R CF) := m_kd (fF := f7) (fK := f8) TR TS M10 (PySem.W.mg_of X G a8) hne Nwd Nskip Ntake Nms
  have Ntr : M0 l.prog w K mg base R 14 "tree" (spTr R CF) := m_tr TR TS M9 Nwd Nkd
  have Npt : M0 l.prog w K mg base R 15 "page_trees" (spPT R CF) := m_pt TR TS M8 Ntr Nrs
  have FP := fun_mk (x := "__init__") (qual := "Page.__init__") (st := sPg) mP dP eP
  have GP := m_pg (P := l.prog) (w := w) (base := base) TP TR TS FP Gro Npt
  have bP := FP.binds (ps := ["self", "name", "text"]) fun _ _ _ _ _ _ us hl => match us, hl with | [_, _, _], _ => rfl
  have Glf : C0 l.prog w K mg base 18 "_law_fault" spLF := c_lf TE D18 Gwof ⟨mkP, bP_, iP, kcP⟩ (PySem.W.mg_of X G aP) GP bP
  have Gtr : C0 l.prog w K mg base 19 "_law_told_right" spTR := c_tr D21 Glf
  exact ok_law (fun_mk l22 c22 k22) TS TL_ (c_deck TS TL_ D16) (c_next TS D17) (c_lrow TS D19) (c_due TS (PySem.W.mg_none_of X G zmin) D20) Gtr
end My
open PySem PySem.W PyProof.Rows in
set_option maxRecDepth 100000 in
set_option maxHeartbeats 0 in
theorem PySem.Challenge.cw_sendstead_k02_texts_too_long_holds : PySem.Challenge.rw_sendstead_k02_texts_too_long.Holds := by
  w_on; o_law; k_head; (case hw => w_witness2)
  k_fill
  refine L2.walk_of (l := PySem.Challenge.rw_sendstead_k02_texts_too_long) (n := 63) (k := 20) (x := "_law_script") (CX := fun _ => L2.CX0) (sp := fun w => My.spLaw _) rfl (by decide) rfl ⟨rfl, by decide, by decide⟩ (fun w h Y => PySem.W.kIn_of Y) ?F (fun _ _ a ns hl _ hS => ⟨a, ns, rfl, hS, hl, fun _ => rfl⟩) fun _ _ _ _ _ z => z
  case F =>
    intro w mg fa h KX G hmg
    refine' My.all_mk KX G hmg ?a0 ?l0 ?c0 ?k0 ?a1 ?l1 ?c1 ?k1 ?a2 ?l2 ?c2 ?k2 ?a3 ?l3 ?c3 ?k3 ?a4 ?l4 ?c4 ?k4 ?a5 ?l5 ?c5 ?k5 ?a6 ?l6 ?c6 ?k6 ?a7 ?l7 ?c7 ?k7 ?a8 ?l8 ?c8 ?k8 ?a9 ?l9 ?c9 ?k9 ?a10 ?l10 ?c10 ?k10 ?a11 ?l11 ?c11 ?k11 ?a12 ?l12 ?c12 ?k12 ?a13 ?l13 ?c13 ?k13 ?a14 ?l14 ?c14 ?k14 ?a15 ?l15 ?c15 ?k15 ?a16 ?l16 ?c16 ?k16 ?a17 ?l17 ?c17 ?k17 ?a18 ?l18 ?c18 ?k18 ?a19 ?l19 ?c19 ?k19 ?a20 ?l20 ?c20 ?k20 ?a21 ?l21 ?c21 ?k21 ?a22 ?l22 ?c22 ?k22 ?aR ?aP ?aS ?aF ?pgR ?hdR ?poR ?saR ?mkR ?kcR ?pgP ?hdP ?poP ?saP ?mkP ?kcP ?nR0 ?nR1 ?nR2 ?nR3 ?nR4 ?nR5 ?nR6 ?nR7 ?nR8 ?nP0 ?nP1 ?nP2 ?nP3 ?nP4 ?b0 ?i0 ?m0 ?d0 ?e0 ?b1 ?i1 ?m1 ?d1 ?e1 ?b2 ?i2 ?m2 ?d2 ?e2 ?b3 ?i3 ?m3 ?d3 ?e3 ?b4 ?i4 ?m4 ?d4 ?e4 ?b5 ?i5 ?m5 ?d5 ?e5 ?b8 ?i8 ?m8 ?d8 ?e8 ?b9 ?i9 ?m9 ?d9 ?e9 ?b10 ?i10 ?m10 ?d10 ?e10 ?b12 ?i12 ?m12 ?d12 ?e12 ?b13 ?i13 ?m13 ?d13 ?e13 ?b14 ?i14 ?m14 ?d14 ?e14 ?b15 ?i15 ?m15 ?d15 ?e15 ?b16 ?i16 ?m16 ?d16 ?e16 ?b17 ?i17 ?m17 ?d17 ?e17 ?b22 ?i22 ?m22 ?d22 ?e22 ?bP_ ?iP ?mP ?dP ?eP ?xF ?xB ?sF ?gF ?ggF ?eF ?tF ?kF ?hF ?isF ?ssF ?nF0 ?nF1 ?nF2 ?nF3 ?iF ?tI_ ?lI ?cI ?kI ?vV ?rdS ?gaS ?fS_ ?kS ?lS ?cS ?lT ?dT ?vT ?zlen ?zall ?zmin ?ztup ?zint ?zstr ?zenum ?zrange ?zVE ?vbig ?vrows ?vcols ?vtsig ?vnsig ?vssig ?essig ?vksig ?eksig ?vsmall ?esmall ?vcaps ?ecaps ?vfigs ?efigs ?vtexts ?etexts ?vbr ?lbr ?ybr ?wbr ?sbr ?ubr ?vmarks ?lmarks ?ymarks ?wmarks ?smarks ?umarks ?vkept ?lkept ?ykept ?wkept ?skept ?ukept ?vpls ?lpls ?ypls ?wpls ?spls ?upls
    (case a0 => k_is)
    (case l0 => k_is)
    (case c0 => k_is)
    (case k0 => k_is)
    (case a1 => k_is)
    (case l1 => k_is)
    (case c1 => k_is)
    (case k1 => k_is)
    (case a2 => k_is)
    (case l2 => k_is)
    (case c2 => k_is)
    (case k2 => k_is)
    (case a3 => k_is)
    (case l3 => k_is)
    (case c3 => k_is)
    (case k3 => k_is)
    (case a4 => k_is)
    (case l4 => k_is)
    (case c4 => k_is)
    (case k4 => k_is)
    (case a5 => k_is)
    (case l5 => k_is)
    (case c5 => k_is)
    (case k5 => k_is)
    (case a6 => k_is)
    (case l6 => k_is)
    (case c6 => k_is)
    (case k6 => k_is)
    (case a7 => k_is)
    (case l7 => k_is)
    (case c7 => k_is)
    (case k7 => k_is)
    (case a8 => k_is)
    (case l8 => k_is)
    (case c8 => k_is)
    (case k8 => k_is)
    (case a9 => k_is)
    (case l9 => k_is)
    (case c9 => k_is)
    (case k9 => k_is)
    (case a10 => k_is)
    (case l10 => k_is)
    (case c10 => k_is)
    (case k10 => k_is)
    (case a11 => k_is)
    (case l11 => k_is)
    (case c11 => k_is)
    (case k11 => k_is)
    (case a12 => k_is)
    (case l12 => k_is)
    (case c12 => k_is)
    (case k12 => k_is)
    (case a13 => k_is)
    (case l13 => k_is)
    (case c13 => k_is)
    (case k13 => k_is)
    (case a14 => k_is)
    (case l14 => k_is)
    (case c14 => k_is)
    (case k14 => k_is)
    (case a15 => k_is)
    (case l15 => k_is)
    (case c15 => k_is)
    (case k15 => k_is)
    (case a16 => k_is)
    (case l16 => k_is)
    (case c16 => k_is)
    (case k16 => k_is)
    (case a17 => k_is)
    (case l17 => k_is)
    (case c17 => k_is)
    (case k17 => k_is)
    (case a18 => k_is)
    (case l18 => k_is)
    (case c18 => k_is)
    (case k18 => k_is)
    (case a19 => k_is)
    (case l19 => k_is)
    (case c19 => k_is)
    (case k19 => k_is)
    (case a20 => k_is)
    (case l20 => k_is)
    (case c20 => k_is)
    (case k20 => k_is)
    (case a21 => k_is)
    (case l21 => k_is)
    (case c21 => k_is)
    (case k21 => k_is)
    (case a22 => k_is)
    (case l22 => k_is)
    (case c22 => k_is)
    (case k22 => k_is)
    (case aR => k_is)
    (case aP => k_is)
    (case aS => k_is)
    (case aF => k_is)
    (case pgR => k_is)
    (case hdR => k_is)
    (case poR => k_is)
    (case saR => k_is)
    (case mkR => k_is)
    (case kcR => k_is)
    (case pgP => k_is)
    (case hdP => k_is)
    (case poP => k_is)
    (case saP => k_is)
    (case mkP => k_is)
    (case kcP => k_is)
    (case nR0 => k_is)
    (case nR1 => k_is)
    (case nR2 => k_is)
    (case nR3 => k_is)
    (case nR4 => k_is)
    (case nR5 => k_is)
    (case nR6 => k_is)
    (case nR7 => k_is)
    (case nR8 => k_is)
    (case nP0 => k_is)
    (case nP1 => k_is)
    (case nP2 => k_is)
    (case nP3 => k_is)
    (case nP4 => k_is)
    (case b0 => k_is)
    (case i0 => k_is)
    (case m0 => k_is)
    (case d0 => k_is)
    (case e0 => k_is)
    (case b1 => k_is)
    (case i1 => k_is)
    (case m1 => k_is)
    (case d1 => k_is)
    (case e1 => k_is)
    (case b2 => k_is)
    (case i2 => k_is)
    (case m2 => k_is)
    (case d2 => k_is)
    (case e2 => k_is)
    (case b3 => k_is)
    (case i3 => k_is)
    (case m3 => k_is)
    (case d3 => k_is)
    (case e3 => k_is)
    (case b4 => k_is)
    (case i4 => k_is)
    (case m4 => k_is)
    (case d4 => k_is)
    (case e4 => k_is)
    (case b5 => k_is)
    (case i5 => k_is)
    (case m5 => k_is)
    (case d5 => k_is)
    (case e5 => k_is)
    (case b8 => k_is)
    (case i8 => k_is)
    (case m8 => k_is)
    (case d8 => k_is)
    (case e8 => k_is)
    (case b9 => k_is)
    (case i9 => k_is)
    (case m9 => k_is)
    (case d9 => k_is)
    (case e9 => k_is)
    (case b10 => k_is)
    (case i10 => k_is)
    (case m10 => k_is)
    (case d10 => k_is)
    (case e10 => k_is)
    (case b12 => k_is)
    (case i12 => k_is)
    (case m12 => k_is)
    (case d12 => k_is)
    (case e12 => k_is)
    (case b13 => k_is)
    (case i13 => k_is)
    (case m13 => k_is)
    (case d13 => k_is)
    (case e13 => k_is)
    (case b14 => k_is)
    (case i14 => k_is)
    (case m14 => k_is)
    (case d14 => k_is)
    (case e14 => k_is)
    (case b15 => k_is)
    (case i15 => k_is)
    (case m15 => k_is)
    (case d15 => k_is)
    (case e15 => k_is)
    (case b16 => k_is)
    (case i16 => k_is)
    (case m16 => k_is)
    (case d16 => k_is)
    (case e16 => k_is)
    (case b17 => k_is)
    (case i17 => k_is)
    (case m17 => k_is)
    (case d17 => k_is)
    (case e17 => k_is)
    (case b22 => k_is)
    (case i22 => k_is)
    (case m22 => k_is)
    (case d22 => k_is)
    (case e22 => k_is)
    (case bP_ => k_is)
    (case iP => k_is)
    (case mP => k_is)
    (case dP => k_is)
    (case eP => k_is)
    (case xF => k_is)
    (case xB => first | rfl | decide +kernel | kernel_rfl)
    (case sF => k_is)
    (case gF => k_is)
    (case ggF => k_is)
    (case eF => k_is)
    (case tF => k_is)
    (case kF => k_is)
    (case hF => k_is)
    (case isF => k_is)
    (case ssF => k_is)
    (case nF0 => k_is)
    (case nF1 => k_is)
    (case nF2 => k_is)
    (case nF3 => k_is)
    (case iF => k_is)
    (case tI_ => k_is)
    (case lI => k_is)
    (case cI => k_is)
    (case kI => k_is)
    (case vV => k_is)
    (case rdS => k_is)
    (case gaS => k_is)
    (case fS_ => k_is)
    (case kS => k_is)
    (case lS => k_is)
    (case cS => k_is)
    (case lT => k_is)
    (case dT => first | rfl | kernel_rfl)
    (case vT => exact .cons ⟨_, rfl⟩ .nil)
    (case zlen => k_is)
    (case zall => k_is)
    (case zmin => k_is)
    (case ztup => k_is)
    (case zint => k_is)
    (case zstr => k_is)
    (case zenum => k_is)
    (case zrange => k_is)
    (case zVE => k_is)
    (case vbig => k_is)
    (case vrows => k_is)
    (case vcols => k_is)
    (case vtsig => k_is)
    (case vnsig => k_is)
    (case vssig => k_is)
    (case essig => decide +kernel)
    (case vksig => k_is)
    (case eksig => decide +kernel)
    (case vsmall => k_is)
    (case esmall => decide +kernel)
    (case vcaps => k_is)
    (case ecaps => decide +kernel)
    (case vfigs => k_is)
    (case efigs => decide +kernel)
    (case vtexts => k_is)
    (case etexts => decide +kernel)
    (case vbr => k_is)
    (case lbr => k_is)
    (case ybr => first | rfl | kernel_rfl)
    (case wbr => first | rfl | kernel_rfl)
    (case sbr => decide +kernel)
    (case ubr => exact My.vals_strs _ _ (by decide +kernel))
    (case vmarks => k_is)
    (case lmarks => k_is)
    (case ymarks => first | rfl | kernel_rfl)
    (case wmarks => first | rfl | kernel_rfl)
    (case smarks => decide +kernel)
    (case umarks => exact My.vals_strs _ _ (by decide +kernel))
    (case vkept => k_is)
    (case lkept => k_is)
    (case ykept => first | rfl | kernel_rfl)
    (case wkept => first | rfl | kernel_rfl)
    (case skept => decide +kernel)
    (case ukept => exact My.vals_strs _ _ (by decide +kernel))
    (case vpls => k_is)
    (case lpls => k_is)
    (case ypls => first | rfl | kernel_rfl)
    (case wpls => first | rfl | kernel_rfl)
    (case spls => decide +kernel)
    (case upls => exact My.vals_strs _ _ (by decide +kernel))
