import PyProof.Rows.All
import Wide.All
import OpenK.AllK
import Wide.FinOn
import HandS.ForMost
import HandS.ForExc
import HandS.ExcInit
import HandS.ExcField
import HandS.FStr
import HandS.CallLocal
import HandS.SortKw
import HandS.StrMore
import HandS.Flow
import HandS.CallSlots
import HandS.TupAny
import HandS.ClsMeth
import HandS.Walk
import KE.DataMinMax
import KE.GoesEnumKw
import KE.IntTextLaws
import HandS.Codes
import PyProof.P3Eq
import HandS.IsInst
import HandS.Style
import HandS.Star
import KE.KRevSl
import PySem.Challenge.RW_sendstead_k07_names
set_option Elab.async false
set_option linter.all false
set_option maxRecDepth 100000
set_option maxHeartbeats 4000000
section
/-! the mathematics of texts, rows and words: plain lists of codes -/
set_option autoImplicit false
namespace SS
abbrev T := List Nat
def BR : T := [40, 41, 123, 125, 91, 93, 124]
def isSep (c : Nat) : Bool := decide (c = 32) || decide (c ∈ BR)
def flush (cur : T) (k : Nat) : List (T × Nat) := if cur = [] then [] else [(cur, k - cur.length)]
/-- the words of what is left of a row, cur being read ahead of column k -/
def rw_ : T → Nat → T → List (T × Nat)
  | cur, k, [] => flush cur k
  | cur, k, c :: r => if isSep c = true then flush cur k ++ (if c = 32 then [] else [([c], k)]) ++ rw_ [] (k + 1) r else rw_ (cur ++ [c]) (k + 1) r
def rowWords (l : T) : List (T × Nat) := rw_ [] 1 l

def SMALL : T := (List.range 26).map (· + 97)
def CAPS : T := (List.range 26).map (· + 65)
def FIGS : T := (List.range 10).map (· + 48)
def TEXTS : T := SMALL ++ CAPS ++ FIGS ++ [95]
def hasOnly (w s : T) : Bool := w.all fun c => decide (c ∈ s)
def isName (w first others : T) : Bool := decide (1 ≤ w.length ∧ w.length ≤ 12) && (decide ((w.getD 0 0) ∈ first) && hasOnly w others)
def isSmall (w : T) : Bool := isName w SMALL (SMALL ++ FIGS)
def isKindName (w : T) : Bool := isName w CAPS (SMALL ++ CAPS ++ FIGS)
def isText (w : T) : Bool := decide (w.length ≤ 40) && hasOnly w TEXTS

/-- one word that is none, or the row too long: the first column -/
def cols (isW : T → Bool) (p : List (T × Nat)) (n : Nat) : List Nat := (p.filter fun q => !isW q.1).map (·.2) ++ (if n > 120 then [121] else [])
def minOf : List Nat → Option Nat
  | [] => none
  | a :: r => match minOf r with
    | none => some a
    | some b => some (if b < a then b else a)
theorem minOf_none : ∀ {l : List Nat}, minOf l = none ↔ l = []
  | [] => by simp [minOf]
  | a :: r => by
    simp only [minOf]
    split <;> simp
theorem minOf_some : ∀ {l : List Nat} {m : Nat}, minOf l = some m ↔ m ∈ l ∧ ∀ y ∈ l, m ≤ y
  | [], m => by simp [minOf]
  | a :: r, m => by
    simp only [minOf]
    cases e : minOf r with
    | none =>
      have e' := minOf_none.mp e
      subst e'
      simp
      constructor
      · intro h; subst h; simp
      · intro h; exact h.1.symm
    | some b =>
      have ih := (minOf_some (l := r) (m := b)).mp e
      simp only [Option.some.injEq]
      constructor
      · intro h
        split at h
        · subst h
          refine ⟨List.mem_cons_of_mem _ ih.1, fun y hy => ?_⟩
          rcases List.mem_cons.mp hy with h | h
          · subst h; omega
          · exact ih.2 y h
        · subst h
          refine ⟨List.mem_cons_self, fun y hy => ?_⟩
          rcases List.mem_cons.mp hy with h | h
          · omega
          · have := ih.2 y h; omega
      · rintro ⟨h1, h2⟩
        have ha := h2 a List.mem_cons_self
        have hb := h2 b (List.mem_cons_of_mem _ ih.1)
        rcases List.mem_cons.mp h1 with h | h
        · subst h
          split
          · omega
          · rfl
        · have := ih.2 m h
          split <;> omega
def wrongCol (isW : T → Bool) (p : List (T × Nat)) (n : Nat) : Option Nat := minOf (cols isW p n)

abbrev W := T × Nat × Nat
def lay (r : Nat) (p : List (T × Nat)) : List W := p.map fun q => (q.1, r, q.2)
def scanGo (isW : T → Bool) : Nat → List T → List W × Option (Nat × Nat)
  | _, [] => ([], none)
  | r, l :: ls => match wrongCol isW (rowWords l) l.length with
    | some c => (lay r ((rowWords l).filter fun q => decide (q.2 < c)), some (r, c))
    | none => (lay r (rowWords l) ++ (scanGo isW (r + 1) ls).1, (scanGo isW (r + 1) ls).2)
def scan (isW : T → Bool) (rows : List T) : List W × Option (Nat × Nat) :=
  match (scanGo isW 1 (rows.take 300)).2 with
  | some p => ((scanGo isW 1 (rows.take 300)).1, some p)
  | none => ((scanGo isW 1 (rows.take 300)).1, if rows.length > 300 then some (301, 1) else none)

/-! ### rows: facts -/
theorem flush_nil (k : Nat) : flush [] k = [] := rfl
theorem rw_sep {cur : T} {k c : Nat} {r : T} (h : isSep c = true) : rw_ cur k (c :: r) = flush cur k ++ (if c = 32 then [] else [([c], k)]) ++ rw_ [] (k + 1) r := by
  rw [rw_, if_pos h]
theorem rw_on {cur : T} {k c : Nat} {r : T} (h : isSep c = false) : rw_ cur k (c :: r) = rw_ (cur ++ [c]) (k + 1) r := by
  rw [rw_, if_neg (by rw [h]; decide)]
theorem rw_blank {cur : T} {k : Nat} {r : T} : rw_ cur k (32 :: r) = flush cur k ++ rw_ [] (k + 1) r := by
  rw [rw_sep (by decide)]
  simp
theorem rw_blanks : ∀ (n k : Nat) (r : T), rw_ [] k (List.replicate n 32 ++ r) = rw_ [] (k + n) r
  | 0, k, r => rfl
  | n + 1, k, r => by
    rw [List.replicate_succ, List.cons_append, rw_blank, flush_nil, List.nil_append, rw_blanks n (k + 1) r]
    congr 1
    omega
theorem rw_tail (cur : T) (k n : Nat) : rw_ cur k (List.replicate n 32) = flush cur k := by
  cases n with
  | zero => rfl
  | succ n =>
    rw [List.replicate_succ, rw_blank]
    have := rw_blanks n (k + 1) []
    rw [List.append_nil] at this
    rw [this]
    simp [rw_, flush]
/-- a plain word, then what ends it -/
theorem rw_word : ∀ (w cur : T) (k : Nat) (r : T), (w.all fun c => !isSep c) = true → rw_ cur k (w ++ r) = rw_ (cur ++ w) (k + w.length) r
  | [], cur, k, r, _ => by simp
  | c :: w, cur, k, r, h => by
    rw [List.all_cons, Bool.and_eq_true] at h
    rw [List.cons_append, rw_on (by simpa using h.1), rw_word w _ _ _ h.2, List.append_assoc, List.singleton_append, List.length_cons]
    congr 1
    omega
theorem flush_word {w : T} {k : Nat} (h : w ≠ []) : flush w (k + w.length) = [(w, k)] := by
  unfold flush
  rw [if_neg h]
  congr 2
  omega
theorem rw_word1 {w : T} {k : Nat} {r : T} (h : w ≠ []) (hs : (w.all fun c => !isSep c) = true) : rw_ [] k (w ++ 32 :: r) = (w, k) :: rw_ [] (k + w.length + 1) r := by
  rw [rw_word w [] k _ hs, List.nil_append, rw_blank, flush_word h]
  rfl
theorem rw_wordEnd {w : T} {k n : Nat} (h : w ≠ []) (hs : (w.all fun c => !isSep c) = true) : rw_ [] k (w ++ List.replicate n 32) = [(w, k)] := by
  rw [rw_word w [] k _ hs, List.nil_append, rw_tail, flush_word h]
theorem rw_ge : ∀ (r cur : T) (k m : Nat), m + cur.length ≤ k → ∀ q ∈ rw_ cur k r, m ≤ q.2
  | [], cur, k, m, h, q, hq => by
    rw [rw_] at hq
    unfold flush at hq
    split at hq
    · simp at hq
    · simp at hq; subst hq; show m ≤ k - cur.length; omega
  | c :: r, cur, k, m, h, q, hq => by
    rw [rw_] at hq
    split at hq
    · rcases List.mem_append.mp hq with hq | hq
      · rcases List.mem_append.mp hq with hq | hq
        · unfold flush at hq
          split at hq
          · simp at hq
          · simp at hq; subst hq; show m ≤ k - cur.length; omega
        · split at hq
          · simp at hq
          · simp at hq; subst hq; show m ≤ k; omega
      · exact rw_ge r [] (k + 1) m (by simp; omega) q hq
    · exact rw_ge r (cur ++ [c]) (k + 1) m (by simp; omega) q hq
/-- the loop over a row, sign by sign -/
def sl (L : T) (a b : Nat) : T := (L.drop a).take (b - a)
theorem sl_snoc {L : T} {a b c : Nat} (h : a ≤ b) (hc : L[b]? = some c) : sl L a (b + 1) = sl L a b ++ [c] := by
  unfold sl
  have e : b + 1 - a = (b - a) + 1 := by omega
  rw [e, List.take_add_one, List.getElem?_drop]
  have e2 : a + (b - a) = b := by omega
  rw [e2, hc]
  rfl
theorem sl_len {L : T} {a b : Nat} (hb : b ≤ L.length) : (sl L a b).length = b - a := by
  unfold sl
  rw [List.length_take, List.length_drop]
  omega
theorem sl_self (L : T) (a : Nat) : sl L a a = [] := by simp [sl]
theorem sl_nil {L : T} {a b : Nat} (hb : b ≤ L.length) (h : ¬ a < b) : sl L a b = [] := by
  have := sl_len (a := a) hb
  exact List.eq_nil_of_length_eq_zero (by omega)
theorem drop_at {L : T} {b c : Nat} (hc : L[b]? = some c) : L.drop b = c :: L.drop (b + 1) := by
  obtain ⟨h, e⟩ := List.getElem?_eq_some_iff.mp hc
  rw [List.drop_eq_getElem_cons h, e]
/-- a turn at a sign that ends no word -/
theorem turn_on {L : T} {a b c : Nat} {ps : List (T × Nat)} (h : a ≤ b) (hc : L[b]? = some c) (hs : isSep c = false)
    (I : ps ++ rw_ (sl L a b) (b + 1) (L.drop b) = rowWords L) : ps ++ rw_ (sl L a (b + 1)) (b + 1 + 1) (L.drop (b + 1)) = rowWords L := by
  rw [drop_at hc, rw_on hs] at I
  rw [sl_snoc h hc]
  exact I
/-- a turn at a sign that ends one -/
theorem turn_sep {L : T} {a b c : Nat} {ps : List (T × Nat)} (h : a ≤ b) (hc : L[b]? = some c) (hs : isSep c = true)
    (I : ps ++ rw_ (sl L a b) (b + 1) (L.drop b) = rowWords L) :
    (ps ++ (if a < b then [(sl L a b, a + 1)] else [])) ++ (if c = 32 then [] else [([c], b + 1)]) ++ rw_ (sl L (b + 1) (b + 1)) (b + 1 + 1) (L.drop (b + 1)) = rowWords L := by
  rw [drop_at hc, rw_sep hs] at I
  rw [sl_self, ← I]
  have hb : b < L.length := (List.getElem?_eq_some_iff.mp hc).1
  have e : flush (sl L a b) (b + 1) = if a < b then [(sl L a b, a + 1)] else [] := by
    unfold flush
    by_cases q : a < b
    · have n : sl L a b ≠ [] := fun z => by
        have := sl_len (L := L) (a := a) (b := b) (by omega)
        rw [z] at this
        simp at this
        omega
      rw [if_neg n, if_pos q, sl_len (by omega)]
      congr 2
      omega
    · rw [if_neg q, if_pos (sl_nil (by omega) q)]
  rw [e]
  simp only [List.append_assoc]
/-- the last turn, at the blank behind the row -/
theorem turn_last {L : T} {a : Nat} {ps : List (T × Nat)} (h : a ≤ L.length)
    (I : ps ++ rw_ (sl L a L.length) (L.length + 1) (L.drop L.length) = rowWords L) :
    ps ++ (if a < L.length then [(sl L a L.length, a + 1)] else []) = rowWords L := by
  rw [List.drop_length] at I
  rw [← I, rw_]
  have e : flush (sl L a L.length) (L.length + 1) = if a < L.length then [(sl L a L.length, a + 1)] else [] := by
    unfold flush
    by_cases q : a < L.length
    · have n : sl L a L.length ≠ [] := fun z => by
        have := sl_len (L := L) (a := a) (b := L.length) (by omega)
        rw [z] at this
        simp at this
        omega
      rw [if_neg n, if_pos q, sl_len (by omega)]
      congr 2
      omega
    · rw [if_neg q, if_pos (sl_nil (by omega) q)]
  rw [e]
theorem rw_len : ∀ (r cur : T) (k : Nat), (rw_ cur k r).length ≤ (flush cur k).length + 2 * r.length
  | [], cur, k => by simp [rw_]
  | c :: r, cur, k => by
    rw [rw_]
    split
    · have h := rw_len r [] (k + 1)
      rw [flush_nil, List.length_nil] at h
      rw [List.length_append, List.length_append]
      have h2 : (if c = 32 then ([] : List (T × Nat)) else [([c], k)]).length ≤ 1 := by split <;> simp
      simp only [List.length_cons]
      omega
    · have h := rw_len r (cur ++ [c]) (k + 1)
      have h1 : (flush (cur ++ [c]) (k + 1)).length ≤ 1 := by unfold flush; split <;> simp
      simp only [List.length_cons]
      omega
theorem rowWords_len (l : T) : (rowWords l).length ≤ 2 * l.length := by
  have h := rw_len l [] 1
  rw [flush_nil, List.length_nil, Nat.zero_add] at h
  exact h

/-! ### statements, rows of the law -/
abbrev tDo : T := [100, 111]
abbrev tSay : T := [115, 97, 121]
abbrev tRet : T := [114, 101, 116, 117, 114, 110]
abbrev t1 : T := [49]
abbrev tQx : T := [39, 120]
abbrev tQabc : T := [39, 97, 98, 99]
abbrev tSelf : T := [115, 101, 108, 102]
abbrev tNone : T := [110, 111, 110, 101]
abbrev tX : T := [120]
abbrev tSet : T := [58, 61]
abbrev tRb : T := [93]
abbrev tEnd : T := [101, 110, 100]
/-- the es that stand in these statements -/
def Leaf (e : T) : Prop := e = t1 ∨ e = tQx ∨ e = tQabc ∨ e = tSelf ∨ e = tNone
def Plain (a : T) : Prop := a = tDo ∨ a = tSay ∨ a = tRet
inductive Stms : List T → Prop
  | nil : Stms []
  | plain {a e : T} {r : List T} : Plain a → Leaf e → Stms r → Stms (a :: e :: r)
  | set {e : T} {r : List T} : Leaf e → Stms r → Stms (tX :: tSet :: e :: r)
theorem Stms.append : ∀ {a b : List T}, Stms a → Stms b → Stms (a ++ b)
  | _, _, .nil, h => h
  | _, _, .plain p q r, h => .plain p q (r.append h)
  | _, _, .set q r, h => .set q (r.append h)
abbrev Out := List (T × Nat) × Option Nat
def outOf (isW : T → Bool) (l : T) : Out := match wrongCol isW (rowWords l) l.length with
  | some c => ((rowWords l).filter (fun q => decide (q.2 < c)), some c)
  | none => (rowWords l, none)
def scanO : Nat → List Out → List W × Option (Nat × Nat)
  | _, [] => ([], none)
  | r, o :: os => match o.2 with
    | some c => (lay r o.1, some (r, c))
    | none => (lay r o.1 ++ (scanO (r + 1) os).1, (scanO (r + 1) os).2)
theorem scanO_eq (isW : T → Bool) : ∀ (ls : List T) (r : Nat), scanGo isW r ls = scanO r (ls.map (outOf isW))
  | [], r => rfl
  | l :: ls, r => by
    rw [List.map_cons, scanGo, scanO, scanO_eq isW ls (r + 1)]
    unfold outOf
    cases wrongCol isW (rowWords l) l.length <;> rfl
abbrev texts (o : List (T × Nat)) : List T := o.map (·.1)
theorem lay_texts (r : Nat) (p : List (T × Nat)) : (lay r p).map (·.1) = texts p := by
  unfold lay texts
  rw [List.map_map]
  rfl
/-- what is known of the row with number ρ: A the long one's, B the odd one's -/
def InfoAt (A B aw bk : Nat) (ρ : Nat) (o : Out) : Prop :=
  if ρ = A then Stms (texts o.1) ∧ o.2 = (if aw = 1 then some 121 else none)
  else if ρ = B ∧ bk = 1 then o = ([(tDo, 1), (tRb, 4)], none)
  else if ρ = B ∧ bk = 2 then o = ([], some 1)
  else Stms (texts o.1) ∧ o.2 = none
def sgn (A B aw bk : Nat) (r n : Nat) : Option (Nat × Nat) :=
  if (aw = 1 ∧ r ≤ A ∧ A < r + n) ∧ ((bk = 2 ∧ r ≤ B ∧ B < r + n) → A < B) then some (A, 121)
  else if bk = 2 ∧ r ≤ B ∧ B < r + n then some (B, 1) else none
def wrd (A B aw bk : Nat) (r n : Nat) : Option (Nat × Nat) :=
  if bk = 1 ∧ r ≤ B ∧ B < r + n ∧ ((aw = 1 ∧ r ≤ A) → B < A) then some (B, 4) else none
/-- words that are statements, up to a do ] at a place, if there is one -/
def Body (w : List W) : Option (Nat × Nat) → Prop
  | none => Stms (w.map (·.1))
  | some p => ∃ S q rest, w = S ++ (tDo, q) :: (tRb, p) :: rest ∧ Stms (S.map (·.1))
theorem Body.ahead {a w : List W} {o : Option (Nat × Nat)} (h : Stms (a.map (·.1))) (b : Body w o) : Body (a ++ w) o := by
  cases o with
  | none =>
    show Stms _
    rw [List.map_append]
    exact h.append b
  | some p =>
    obtain ⟨S, q, rest, e, s⟩ := b
    refine ⟨a ++ S, q, rest, by rw [e, List.append_assoc], ?_⟩
    rw [List.map_append]
    exact h.append s
theorem scan_outs {A B aw bk : Nat} (hAB : A ≠ B) : ∀ (os : List Out) (r : Nat), (∀ i o, os[i]? = some o → InfoAt A B aw bk (r + i) o) →
    (scanO r os).2 = sgn A B aw bk r os.length ∧ Body (scanO r os).1 (wrd A B aw bk r os.length)
  | [], r, _ => by
    refine ⟨?_, ?_⟩
    · unfold sgn
      rw [if_neg (by simp only [List.length_nil]; omega), if_neg (by simp only [List.length_nil]; omega)]
      rfl
    · unfold wrd
      rw [if_neg (by simp only [List.length_nil]; omega)]
      exact .nil
  | o :: os, r, h => by
    have h0 := h 0 o rfl
    rw [Nat.add_zero] at h0
    have ih := scan_outs (aw := aw) (bk := bk) hAB os (r + 1) (fun i u e => by
      have := h (i + 1) u (by simpa using e)
      rw [show r + 1 + i = r + (i + 1) by omega]
      exact this)
    have stop : ∀ c, o.2 = some c → scanO r (o :: os) = (lay r o.1, some (r, c)) := fun c e => by rw [scanO, e]
    have on : o.2 = none → scanO r (o :: os) = (lay r o.1 ++ (scanO (r + 1) os).1, (scanO (r + 1) os).2) := fun e => by rw [scanO, e]
    have onS : o.2 = none → sgn A B aw bk r (os.length + 1) = sgn A B aw bk (r + 1) os.length → (scanO r (o :: os)).2 = sgn A B aw bk r (os.length + 1) := fun e z => by
      rw [on e, z]
      exact ih.1
    have onW : o.2 = none → Stms (texts o.1) → wrd A B aw bk r (os.length + 1) = wrd A B aw bk (r + 1) os.length → Body (scanO r (o :: os)).1 (wrd A B aw bk r (os.length + 1)) := fun e st z => by
      rw [on e, z]
      exact Body.ahead (by rw [lay_texts]; exact st) ih.2
    rw [List.length_cons]
    clear h
    unfold InfoAt at h0
    by_cases a : r = A
    · rw [if_pos a] at h0
      obtain ⟨h1, h2⟩ := h0
      by_cases w1 : aw = 1
      · rw [if_pos w1] at h2
        rw [stop 121 h2]
        refine ⟨?_, ?_⟩
        · unfold sgn
          rw [if_pos (by omega), a]
        · unfold wrd
          rw [if_neg (by omega)]
          show Stms _
          rw [lay_texts]
          exact h1
      · rw [if_neg w1] at h2
        refine ⟨onS h2 ?_, onW h2 h1 ?_⟩
        · unfold sgn
          repeat' split
          all_goals first | rfl | (exfalso; omega)
        · unfold wrd
          repeat' split
          all_goals first | rfl | (exfalso; omega)
    · rw [if_neg a] at h0
      by_cases b1 : r = B ∧ bk = 1
      · rw [if_pos b1] at h0
        have hn : o.2 = none := by rw [h0]
        refine ⟨onS hn ?_, ?_⟩
        · unfold sgn
          repeat' split
          all_goals first | rfl | (exfalso; omega)
        · rw [on hn]
          unfold wrd
          rw [if_pos (by omega)]
          refine ⟨[], (r, 1), (scanO (r + 1) os).1, ?_, .nil⟩
          rw [h0, ← b1.1]
          rfl
      · rw [if_neg b1] at h0
        by_cases b2 : r = B ∧ bk = 2
        · rw [if_pos b2] at h0
          rw [stop 1 (by rw [h0])]
          refine ⟨?_, ?_⟩
          · unfold sgn
            rw [if_neg (by omega), if_pos (by omega), b2.1]
          · unfold wrd
            rw [if_neg (by omega), h0]
            exact .nil
        · rw [if_neg b2] at h0
          refine ⟨onS h0.2 ?_, onW h0.2 h0.1 ?_⟩
          · unfold sgn
            repeat' split
            all_goals first | rfl | (exfalso; omega)
          · unfold wrd
            repeat' split
            all_goals first | rfl | (exfalso; omega)
end SS

end
set_option Elab.async false
set_option linter.all false
set_option maxRecDepth 100000
set_option maxHeartbeats 1000000
namespace PySem.W
open PySem PyProof.Rows
section
variable {M : Model} {prog : Program} {w : World} {A : Around} {E : Value → Shared → Prop} {s : Shared} {env : Env}
theorem callWithT_kwB {pos : Pos} {T : String} {first : List Value} {args : List (Bool × Sem Value)} {keywords : List (Option Str × Sem Value)} {Q : Value → Shared → Prop}
    (hplain : args.any (·.1) = false) (hkw : keywords.any (·.1.isNone) = false)
    (h : wpAny M A (evalArgs (.type T) true args keywords) (fun a s₁ => wpAny M A (call (.type T) (first ++ a.pos) a.kw) Q E s₁) E s) :
    wpAny M A (callWith pos (.type T) first args keywords) Q E s := by
  unfold callWith
  refine wpAny_bind (wpAny_holding (wpAny_mono h (fun a s₁ h₁ => wpAny_bind (wpAny_standAt ?_)) fun _ _ x => x))
  simp only [hplain, hkw, Bool.or_false]
  refine wpAny_bind (wpAny_pure ?_)
  exact wpAny_bind (wpAny_mono h₁ (fun r s₂ hr => wpAny_bind (wpAny_holding (wpAny_point (wpAny_pure hr)))) fun _ _ x => x)
theorem callWithT_kw {pos : Pos} {T : String} {e : Expr} {rest : List Expr} {kws : List Keyword} {Q : Value → Shared → Prop}
    (h : wpAny M A (spliced (backTo pos (starEach (e :: rest) env))) (fun vs s₁ => wpAny M A (evalAll ((backToKw pos (keywordEach kws env)).map (·.2)))
      (fun kvs s₂ => wpAny M A (call (.type T) vs (((backToKw pos (keywordEach kws env)).filterMap (·.1)).zip kvs)) Q E s₂) E s₁) E s)
    (he : backTo pos (starEach (e :: rest) env) = (false, eval e env) :: backTo pos (starEach rest env) := by rfl)
    (hplain : (backTo pos (starEach (e :: rest) env)).any (·.1) = false := by rfl)
    (hall : (backToKw pos (keywordEach kws env)).all (·.1.isSome) = true := by rfl)
    (hkw : (backToKw pos (keywordEach kws env)).any (·.1.isNone) = false := by rfl) :
    wpAny M A (callWith pos (.type T) [] (backTo pos (starEach (e :: rest) env)) (backToKw pos (keywordEach kws env))) Q E s := by
  refine callWithT_kwB hplain hkw ?_
  rw [he] at h ⊢
  exact evalArgs_kwB hall h
theorem meets_enumerate_new1 {v : Value} {o : Obj} {H : Heap → Prop} (B : Begins v o H) :
    Meets (Builtin.«enumerate.__new__» ⟨[.type "enumerate", v], []⟩) (fun _ R s => H s.heap ∧
      R (.ok (.ret (.ref (s.heap.push o).objs.size))) { s with heap := (s.heap.push o).push { cls := .type "enumerate", data := .fields #[.none, .bool false, .ref s.heap.objs.size, rawInt 0, .none, .none] } }) :=
  .of_wp fun prog w A R s h => by
    obtain ⟨hp, g, d, tk, os⟩ := s; obtain ⟨h1, h⟩ := h
    have hsub := sub_enumerate
    have q1 : ∀ {A' : Around} {E : Value → Shared → Prop} {Q : Value → Shared → Prop}, Q (.ref hp.objs.size) ⟨hp.push o, g, d, tk, os⟩ → wpAny (model prog w) A' (pyIter v) Q E ⟨hp, g, d, tk, os⟩ :=
      fun q => B.iter prog w _ _ ⟨hp, g, d, tk, os⟩ _ h1 q
    wp_walk using q1
    refine wpAny_stack_any fun st => wpAny_pure ?_
    split
    · rename_i c _ _ _ _ _
      cases (c == Value.type "enumerate")
      · wp_walk using q1
        exact ⟨_, rfl, h⟩
      · wp_walk using q1
        exact ⟨_, rfl, h⟩
    · wp_walk using q1
      exact ⟨_, rfl, h⟩
theorem call_enumX {x : Str} {t : Tok} {Q : Value → Shared → Prop}
    (h : ∀ h', IsEnum h' (s.heap.objs.size + 1) s.heap.objs.size 0 .none → h'.IsStrIter s.heap.objs.size (strIterType x) x t 0 → h'.objs.size = s.heap.objs.size + 2 →
      (∀ b o, s.heap.get? b = some o → h'.get? b = some o) → Q (.ref (s.heap.objs.size + 1)) { s with heap := h' }) :
    wpAny (model prog w) A (call (.type "enumerate") [.str x t]) Q E s := by
  have B := begins_text x t
  refine callType_new F.called_enumerate (by decide) (F.typeCall_enumerate_1 _) (F.newCall_enumerate_1 _) (fun obj => F.args_object_init_2 obj _) F.entry_enumerate_new
    (meets_enumerate_new1 B) ⟨trivial, ?_⟩
  have hz : (s.heap.push { cls := .type (strIterType x), data := .fields #[.str x t, .int 0 0] }).objs.size = s.heap.objs.size + 1 := Heap.size_push ..
  show _ ∧ _
  rw [hz]
  have he : IsEnum ((s.heap.push { cls := .type (strIterType x), data := .fields #[.str x t, .int 0 0] }).push { cls := .type "enumerate", data := .fields #[.none, .bool false, .ref s.heap.objs.size, rawInt 0, .none, .none] }) (s.heap.objs.size + 1) s.heap.objs.size 0 .none := by
    have := Heap.get?_push_size (s.heap.push { cls := .type (strIterType x), data := .fields #[.str x t, .int 0 0] }) (o := { cls := .type "enumerate", data := .fields #[.none, .bool false, .ref s.heap.objs.size, rawInt 0, .none, .none] }) rfl
    rw [hz] at this; exact this
  exact ⟨⟨_, he, rfl⟩, h _ he ⟨_, Heap.get?_push_of_some _ (Heap.get?_push_size _ B.free), rfl, rfl⟩ (by rw [Heap.size_push, hz]) fun b o x => Heap.get?_push_of_some _ (Heap.get?_push_of_some _ x)⟩
end
end PySem.W
namespace L2
open PySem PySem.Spec PyProof.Rows

/-! ### text * int -/
def repS (z : Str) (n : Int) : Str := ⟨(List.replicate n.toNat z.cps.toList).flatten.toArray⟩
theorem fold_app (a : Array Nat) : ∀ (n : Nat) (b : Array Nat), (List.replicate n a).foldl (· ++ ·) b = b ++ (List.replicate n a.toList).flatten.toArray
  | 0, b => by simp
  | n + 1, b => by
    rw [List.replicate_succ, List.foldl_cons, fold_app a n, List.replicate_succ, List.flatten_cons]
    apply Array.toList_inj.mp
    simp
theorem repS_length (z : Str) (n : Int) : (repS z n).length = n.toNat * z.length := by
  show (List.replicate n.toNat z.cps.toList).flatten.toArray.size = _
  simp [Str.length]
theorem repS_0 (z : Str) : repS z 0 = Str.empty := by
  unfold repS Str.empty
  simp
theorem repS_1 (z : Str) : repS z 1 = z := by
  unfold repS
  cases z
  simp
theorem op_mul_str {X : Cx} : OpR X (binaryOp .Mult) (fun x y H Q => ∃ (z : Str) (n : Int), x = .str z ∧ y = .int n ∧ 0 ≤ n ∧ n ≤ 1000 ∧ 0 < z.length ∧ z.length ≤ 1000 ∧ Q (.str (repS z n)) H) := by
  intro pins s σ H x y v u Q I rx ry h
  obtain ⟨z, n, rfl, rfl, h0, h1, hz0, hz, q⟩ := h
  obtain ⟨t, rfl⟩ := rx
  obtain ⟨t', rfl⟩ := ry
  have hm : z.length * n.toNat ≤ 1000 * 1000 := Nat.mul_le_mul hz (by omega)
  have e : (⟨(List.replicate n.toNat z.cps).foldl (· ++ ·) #[]⟩ : Str) = repS z n := by
    rw [fold_app]
    unfold repS
    simp
  refine P.mul_str ?_ (fun _ _ => ?_) (fun _ _ => ?_) ?_
  · have a : ¬ n < -(2 ^ 63 : Int) := by omega
    have b : ¬ n ≥ 2 ^ 63 := by omega
    rw [decide_eq_false a, decide_eq_false b]; rfl
  · rename_i hn _
    have : (2 ^ 63 - 1) / n ≥ 1000 := by
      apply Int.le_ediv_of_mul_le (by omega)
      omega
    omega
  · unfold Builtin.Str.tooLong
    exact decide_eq_false (by rw [sizeLine_eq]; omega)
  · by_cases c0 : n < 1
    · rw [if_pos c0]
      have : n = 0 := by omega
      subst this
      rw [repS_0] at q
      exact ⟨by decide, V.str Str.empty, H, I.tok _, ⟨_, rfl⟩, q⟩
    · rw [if_neg c0]
      by_cases c1 : n = 1
      · subst c1
        rw [if_pos (by rfl)]
        rw [repS_1] at q
        exact ⟨V.str z, H, I, ⟨_, rfl⟩, q⟩
      · have e1 : (n == 1 || z.length == 0) = false := by
          have a : (n == 1) = false := by simp; omega
          have b : (z.length == 0) = false := by simp; omega
          rw [a, b]; rfl
        rw [if_neg (by rw [e1]; decide), e]
        refine ⟨?_, V.str (repS z n), H, I.tok _, ⟨_, rfl⟩, q⟩
        rw [repS_length, sizeLine_eq, Nat.mul_comm]
        omega

/-! ### enumerate(text); enumerate(list, start=k) -/
/-- the signs of x, each in a new pair -/
def Iex (x : Str) : It :=
  ⟨fun i _ => i < x.cps.size, fun i H v H' => ∃ T c, v = .ref T ∧ H T = none ∧ H' = upd H T (.tup [.int (i : Nat), .str ⟨#[c]⟩]) ∧ x.cps[i]? = some c, fun i _ => x.cps.size ≤ i⟩
theorem turn_enumX {P : Program} {w : World} {K : PySem.W.Frag} {elts : List Expr} {kk : Nat} {tpos : Pos} (e it : Addr) (x : Str) (t : Tok) :
    Turn P w K (.Tuple elts kk tpos) (Iex x) [e, it] e (fun i h => (∃ old, IsEnum h e it ((i : Nat) : Int) old) ∧ h.IsStrIter it (strIterType x) x t i ∧ e ≠ it ∧ i ≤ x.cps.size) where
  mem := by simp
  obj := fun i h st b hb => by
    obtain ⟨⟨old, he⟩, ⟨o, ho, hc, hd⟩, _⟩ := st
    have e' : b = e ∨ b = it := by simpa using hb
    rcases e' with z | z
    · rw [z]; exact ⟨_, he, fun v q => nomatch q⟩
    · rw [z]; exact ⟨o, ho, fun v q => by rw [hd] at q; cases q⟩
  keep := fun i h h' st k => let ⟨⟨old, he⟩, ⟨o, ho, r⟩, hne, hz⟩ := st; ⟨⟨old, k e (by simp) _ he⟩, ⟨o, k it (by simp) o ho, r⟩, hne, hz⟩
  item := by
    intro X hP hw hK hc i pins s σ H E I hf st hg
    subst hP hw hK
    obtain ⟨⟨old, he⟩, hit, hne, hz⟩ := st
    have hel : e < s.heap.objs.size := Heap.lt_size he
    have hil : it < s.heap.objs.size := by obtain ⟨_, q, _⟩ := hit; exact Heap.lt_size q
    have D := Draws.text (prog := X.prog) (w := X.w) (A := X.A.in1) (I.ok.hd hc) it x t
    refine wpAny_pyNext_enum_itemC D he hit hg hne (by simpa using hne) fun v h' tk hv ho hit' hT hsz hk => ?_
    obtain ⟨c, u, hcx, rfl⟩ := hv
    refine ⟨_, rfl, wpAny_letOwnedTupleGo_enum (s := { s with heap := h', toks := tk + 1 }) ho fun h'' he' sb => ?_⟩
    have hT2 : h''.get? s.heap.objs.size = some { cls := .type "tuple", data := .seq #[.int i tk, .str ⟨#[c]⟩ u] } := (sb.2 _ (Nat.ne_of_gt hel)).trans hT
    have new : ObjOk X.prog X.w (upd H s.heap.objs.size (.tup [.int (i : Nat), .str ⟨#[c]⟩])) h'' s.heap.objs.size (.tup [.int (i : Nat), .str ⟨#[c]⟩]) :=
      ⟨by show 2 ≤ sizeLine; decide, [.int i tk, .str ⟨#[c]⟩ u], .cons ⟨_, rfl⟩ (.cons ⟨_, rfl⟩ .nil), ⟨_, hT2, rfl, _, rfl⟩⟩
    have I1 : Inv X pins σ (upd H s.heap.objs.size (.tup [.int (i : Nat), .str ⟨#[c]⟩])) { s with heap := h'', toks := tk + 1 } :=
      I.turnedNew (ch := [e, it]) (fun b ob hb q => (sb.2 b (fun z => hb (by simp [z]))).trans (hk b ob (fun z => hb (by simp [z])) (fun z => hb (by simp [z])) q)) hf (Nat.le_refl _) new
    refine ⟨.ref s.heap.objs.size, _, I1, rfl, ⟨_, c, rfl, I.hok.fresh (Nat.le_refl _), rfl, hcx⟩, ⟨⟨Value.str ⟨#[c]⟩ u, ?_⟩, ?_, hne, hg⟩, fun b hb => ?_⟩
    · have e1 : ((i + 1 : Nat) : Int) = (i : Int) + 1 := by omega
      rw [e1]; exact he'
    · obtain ⟨o, q, r⟩ := hit'
      exact ⟨o, (sb.2 it (Ne.symm hne)).trans q, r⟩
    · have hb' : b < s.heap.objs.size := by
        have e' : b = e ∨ b = it := by simpa using hb
        rcases e' with z | z
        · rw [z]; exact hel
        · rw [z]; exact hil
      rw [upd_ne (Nat.ne_of_lt hb')]
      exact (hf b hb).1
  done := by
    intro X hP hw hK hc i pins s σ H E I hf st hg
    subst hP hw hK
    obtain ⟨⟨old, he⟩, hit, hne, hz⟩ := st
    obtain ⟨f0, f1, f2, f3, f4, f5⟩ := hf it (by simp)
    have D := Draws.text (prog := X.prog) (w := X.w) (A := X.A.in1) (I.ok.hd hc) it x t
    have e1 : i = x.cps.size := Nat.le_antisymm hz hg
    subst e1
    exact wpAny_pyNext_enum_endD D he hit fun h' eb => ⟨rfl, I.turned (t' := s.toks) (fun b o hb q => eb b o hb q) f0 f1 f3 f4 f5⟩
  self := fun A i s Q E st h => let ⟨⟨_, he⟩, _⟩ := st; wpAny_pyIter_enum he h
def iEnumX (ta : TA) : TI := fun σ H R => ta σ H fun vs H1 => ∃ x : Str, vs = [.str x] ∧ R (Iex x) H1
theorem pi_enumX {X : Cx} {e : Expr} {ta : TA} {p pos tpos : Pos} {elts : List Expr} {kk : Nat} (hg : Gl X "enumerate") (hm : X.mg "enumerate" = none) (ha : PA X [e] ta) (hs : starEach [e] X.env = [(false, eval e X.env)] := by rfl) :
    PI X (.Tuple elts kk tpos) (.Call (.Name "enumerate" p) [e] [] pos) (iEnumX ta) := by
  refine ⟨fun pins s σ H R I h => ?_⟩
  refine Call_ (ld_blt I hg hm boot_enumerate (PyProof.Rows.callWith_type1 (thn (ha.run pos pins s σ H _ I h) fun us s1 ⟨vs, H1, I1, r1, q1⟩ => ?_) hs rfl))
  obtain ⟨x, ex, q⟩ := q1
  subst ex
  cases r1 with
  | cons r rr =>
    cases rr
    obtain ⟨t, rfl⟩ := r
    refine PySem.W.call_enumX (x := x) (t := t) fun h' he hit hsz hk => wpAny_pyIter_enum he ?_
    have I2 : Inv X pins σ H1 { s1 with heap := h' } := I1.kept (t' := s1.toks) hk
    refine ⟨s1.heap.objs.size + 1, [s1.heap.objs.size + 1, s1.heap.objs.size], _, _, H1, rfl, I2, turn_enumX (s1.heap.objs.size + 1) s1.heap.objs.size x t, ⟨⟨.none, he⟩, hit, Nat.succ_ne_self _, Nat.zero_le _⟩, fun b hb => ?_, q⟩
    have e' : b = s1.heap.objs.size + 1 ∨ b = s1.heap.objs.size := by simpa using hb
    have hle : s1.heap.objs.size ≤ b := by
      rcases e' with z | z
      · rw [z]; exact Nat.le_add_right _ _
      · rw [z]; exact Nat.le_refl _
    exact I1.fpOk hle (I1.hok.fresh hle)
theorem walk_enumX {x : Str} : Walk (Iex x) x.cps.size (fun _ => True) (fun i H v H' => ∃ T c, v = .ref T ∧ H T = none ∧ H' = upd H T (.tup [.int (i : Nat), .str ⟨#[c]⟩]) ∧ x.cps[i]? = some c) :=
  ⟨fun _ _ hi _ => hi, fun _ _ => Nat.le_refl _, fun _ _ _ _ _ _ y => y⟩
/-- the items xs of the list at a, counted from k, each in a new pair -/
def Iek (K : PySem.W.Frag) (a : Addr) (xs : List V) (k : Int) : It :=
  ⟨fun i H => i < xs.length ∧ SqL K H a xs, fun i H v H' => ∃ T x, v = .ref T ∧ H T = none ∧ H' = upd H T (.tup [.int (k + (i : Nat)), x]) ∧ xs[i]? = some x, fun i H => xs.length = i ∧ SqL K H a xs⟩
theorem turn_enumK {P : Program} {w : World} {K : PySem.W.Frag} {elts : List Expr} {kk : Nat} {tpos : Pos} (a e it : Addr) (xs : List V) (k0 : Int) :
    Turn P w K (.Tuple elts kk tpos) (Iek K a xs k0) [e, it] e (fun i h => (∃ old, IsEnum h e it (k0 + (i : Nat)) old) ∧ h.IsListIter it a i ∧ e ≠ it) where
  mem := by simp
  obj := fun i h st b hb => by
    obtain ⟨⟨old, he⟩, ⟨o, ho, hc, hd⟩, _⟩ := st
    have e' : b = e ∨ b = it := by simpa using hb
    rcases e' with z | z
    · rw [z]; exact ⟨_, he, fun v q => nomatch q⟩
    · rw [z]; exact ⟨o, ho, fun v q => by rw [hd] at q; cases q⟩
  keep := fun i h h' st k => let ⟨⟨old, he⟩, hi, hne⟩ := st; ⟨⟨old, k e (by simp) _ he⟩, hi.at fun o q => k it (by simp) o q, hne⟩
  item := by
    intro X hP hw hK hc i pins s σ H E I hf st hg
    subst hP hw hK
    obtain ⟨⟨old, he⟩, hit, hne⟩ := st
    obtain ⟨hlt, hq⟩ := hg
    have hx : xs[i]? = some xs[i] := by simp [hlt]
    generalize xs[i] = x at hx
    obtain ⟨its, rv, p, hz⟩ := I.list hq
    obtain ⟨u0, hu, ru⟩ := rv.get hx
    have hel : e < s.heap.objs.size := Heap.lt_size he
    have hil : it < s.heap.objs.size := by obtain ⟨_, q, _⟩ := hit; exact Heap.lt_size q
    have hia : a ≠ it := fun z => by
      obtain ⟨o, ho, hcl, hd⟩ := hit
      obtain ⟨o2, ho2, hcl2, _⟩ := p.isList
      rw [z, ho] at ho2
      have := Option.some.inj ho2
      subst this
      rw [hcl] at hcl2
      injection hcl2 with z9
      exact absurd z9 (by decide)
    have hea : e ≠ a := fun z => by
      obtain ⟨o2, ho2, hcl2, _⟩ := p.isList
      rw [← z, he] at ho2
      have := Option.some.inj ho2
      subst this
      injection hcl2 with z9
      exact absurd z9 (by decide)
    have D := Draws.list (prog := X.prog) (w := X.w) (A := X.A.in1) (I.ok.hd hc) it a hia its.toArray
    have hlen : i < its.toArray.size := by
      have := rv.length
      simp
      omega
    refine wpAny_pyNext_enum_itemC D he ⟨hit, p.isList⟩ hlen hne (by simp [hne, hea]) fun v h' tk hv ho hit' hT hsz hk => ?_
    have ev : v = u0 := by
      have z : its.toArray[i]? = some v := hv
      have z2 : its.toArray[i]? = some u0 := by simpa using hu
      rw [z2] at z
      exact (Option.some.inj z).symm
    subst ev
    refine ⟨_, rfl, wpAny_letOwnedTupleGo_enum (s := { s with heap := h', toks := tk + 1 }) ho fun h'' he' sb => ?_⟩
    have hT2 : h''.get? s.heap.objs.size = some { cls := .type "tuple", data := .seq #[.int (k0 + (i : Nat)) tk, v] } := (sb.2 _ (Nat.ne_of_gt hel)).trans hT
    have new : ObjOk X.prog X.w (upd H s.heap.objs.size (.tup [.int (k0 + (i : Nat)), x])) h'' s.heap.objs.size (.tup [.int (k0 + (i : Nat)), x]) :=
      ⟨by show 2 ≤ sizeLine; decide, [.int (k0 + (i : Nat)) tk, v], .cons ⟨_, rfl⟩ (.cons ru .nil), ⟨_, hT2, rfl, _, rfl⟩⟩
    have I1 : Inv X pins σ (upd H s.heap.objs.size (.tup [.int (k0 + (i : Nat)), x])) { s with heap := h'', toks := tk + 1 } :=
      I.turnedNew (ch := [e, it]) (fun b ob hb q => (sb.2 b (fun z => hb (by simp [z]))).trans (hk b ob (fun z => hb (by simp [z])) (fun z => hb (by simp [z])) q)) hf (Nat.le_refl _) new
    refine ⟨.ref s.heap.objs.size, _, I1, rfl, ⟨_, x, rfl, I.hok.fresh (Nat.le_refl _), rfl, hx⟩, ⟨⟨v, ?_⟩, hit'.1.at fun o q => (sb.2 it (Ne.symm hne)).trans q, hne⟩, fun b hb => ?_⟩
    · have e1 : k0 + ((i + 1 : Nat) : Int) = k0 + (i : Int) + 1 := by omega
      rw [e1]; exact he'
    · have hb' : b < s.heap.objs.size := by
        have e' : b = e ∨ b = it := by simpa using hb
        rcases e' with z | z
        · rw [z]; exact hel
        · rw [z]; exact hil
      rw [upd_ne (Nat.ne_of_lt hb')]
      exact (hf b hb).1
  done := by
    intro X hP hw hK hc i pins s σ H E I hf st hg
    subst hP hw hK
    obtain ⟨⟨old, he⟩, hit, hne⟩ := st
    obtain ⟨hlt, hq⟩ := hg
    obtain ⟨its, rv, p, hz⟩ := I.list hq
    obtain ⟨f0, f1, f2, f3, f4, f5⟩ := hf it (by simp)
    have hia : a ≠ it := fun z => by
      obtain ⟨o, ho, hcl, hd⟩ := hit
      obtain ⟨o2, ho2, hcl2, _⟩ := p.isList
      rw [z, ho] at ho2
      have := Option.some.inj ho2
      subst this
      rw [hcl] at hcl2
      injection hcl2 with z9
      exact absurd z9 (by decide)
    have D := Draws.list (prog := X.prog) (w := X.w) (A := X.A.in1) (I.ok.hd hc) it a hia its.toArray
    have e1 : i = its.toArray.size := by
      have := rv.length
      simp
      omega
    subst e1
    exact wpAny_pyNext_enum_endD D he ⟨hit, p.isList⟩ fun h' eb => ⟨rfl, I.turned (t' := s.toks) (fun b o hb q => eb b o hb q) f0 f1 f3 f4 f5⟩
  self := fun A i s Q E st h => let ⟨⟨_, he⟩, _⟩ := st; wpAny_pyIter_enum he h
def iEnumK (K : PySem.W.Frag) (ta tk : TA) : TI := fun σ H R => ta σ H fun vs H1 => tk σ H1 fun zs H2 => ∃ (a : Addr) (xs : List V) (k : Int), vs = [.ref a] ∧ zs = [.int k] ∧ 0 ≤ k ∧ k < 1000 ∧ SqL K H2 a xs ∧ R (Iek K a xs k) H2
theorem pi_enumK {X : Cx} {e : Expr} {kws : List Keyword} {ta tk : TA} {p pos tpos : Pos} {elts : List Expr} {kk : Nat} (hg : Gl X "enumerate") (hm : X.mg "enumerate" = none) (ha : PA X [e] ta) (hk : PK X kws tk)
    (he : backTo pos (starEach [e] X.env) = (false, eval e X.env) :: backTo pos (starEach [] X.env) := by rfl) (hpl : (backTo pos (starEach [e] X.env)).any (·.1) = false := by rfl)
    (hall : (backToKw pos (keywordEach kws X.env)).all (·.1.isSome) = true := by rfl) (hnone : (backToKw pos (keywordEach kws X.env)).any (·.1.isNone) = false := by rfl) (hks : (backToKw pos (keywordEach kws X.env)).filterMap (·.1) = [Str.ofString "start"] := by rfl) :
    PI X (.Tuple elts kk tpos) (.Call (.Name "enumerate" p) [e] kws pos) (iEnumK X.K ta tk) := by
  refine ⟨fun pins s σ H R I h => ?_⟩
  refine wpAny_Call_Name_kw (ld_blt I hg hm boot_enumerate ?_)
  refine PySem.W.callWithT_kw (thn (ha.run pos pins s σ H _ I h) fun us s1 ⟨vs, H1, I1, r1, q1⟩ => thn (hk.run pos pins s1 σ H1 _ I1 q1) fun ws s2 ⟨zs, H2, I2, r2, q2⟩ => ?_) he hpl hall hnone
  rw [hks]
  obtain ⟨a, xs, k, ex, ez, hk0, hk1, hq, q⟩ := q2
  subst ex ez
  cases r1 with
  | cons r rr =>
    cases rr
    cases r
    cases r2 with
    | cons r' rr' =>
      cases rr'
      obtain ⟨t, rfl⟩ := r'
      obtain ⟨its, rv, p', hz⟩ := I2.list hq
      refine enum_begins_start (begins_list a its.toArray) p'.isList (by omega) (by omega) fun h' he hit hsz hkp => wpAny_pyIter_enum he ?_
      have I3 : Inv X pins σ H2 { s2 with heap := h' } := I2.kept (t' := s2.toks) hkp
      have e0 : k + ((0 : Nat) : Int) = k := by omega
      refine ⟨s2.heap.objs.size + 1, [s2.heap.objs.size + 1, s2.heap.objs.size], _, _, H2, rfl, I3, turn_enumK a (s2.heap.objs.size + 1) s2.heap.objs.size xs k, ⟨⟨.none, by rw [e0]; exact he⟩, ⟨_, hit, rfl, rfl⟩, Nat.succ_ne_self _⟩, fun b hb => ?_, q⟩
      have e' : b = s2.heap.objs.size + 1 ∨ b = s2.heap.objs.size := by simpa using hb
      have hle : s2.heap.objs.size ≤ b := by
        rcases e' with z | z
        · rw [z]; exact Nat.le_add_right _ _
        · rw [z]; exact Nat.le_refl _
      exact I2.fpOk hle (I2.hok.fresh hle)
theorem walk_enumK {K : PySem.W.Frag} {a : Addr} {xs : List V} {k : Int} : Walk (Iek K a xs k) xs.length (fun H => SqL K H a xs) (fun i H v H' => ∃ T x, v = .ref T ∧ H T = none ∧ H' = upd H T (.tup [.int (k + (i : Nat)), x]) ∧ xs[i]? = some x) :=
  ⟨fun _ _ hi q => ⟨hi, q⟩, fun _ q => ⟨rfl, q⟩, fun _ _ _ _ _ _ y => y⟩

/-! ### min(xs, default=d) of data -/
theorem Vals.ref1' {a : Addr} {us : List Value} (r : Vals [V.ref a] us) : us = [Value.ref a] := by
  cases r with
  | cons r rr => cases rr; cases r; rfl
def rMinD (K : PySem.W.Frag) : List V → List V → Hp → VK → Prop := fun vs zs H Q => ∃ (a : Addr) (xs : List V) (ds : List PyData) (d : V), vs = [.ref a] ∧ zs = [d] ∧ SqL K H a xs ∧ DpAll K H xs ds ∧ PySem.W.AlikeAll ds ∧ PyData.depthAll ds ≤ 20 ∧
  (ds = [] → Q d H) ∧ ∀ (y : PyData) (ys : List PyData) (i : Nat) (v : V) (e : PyData), ds = y :: ys → xs[i]? = some v → ds[i]? = some e → e = PySem.W.minD y ys → Q v H
theorem dpAll_get {K : PySem.W.Frag} {H : Hp} : ∀ {xs : List V} {ds : List PyData}, DpAll K H xs ds → ∀ {i : Nat} {v : V}, xs[i]? = some v → ∃ e, ds[i]? = some e ∧ Dp K H v e
  | _, _, .nil, i, v, h => by simp at h
  | _, _, .cons a r, 0, v, h => by simp at h; subst h; exact ⟨_, rfl, a⟩
  | _, _, .cons a r, i + 1, v, h => by
    obtain ⟨e, h1, h2⟩ := dpAll_get r (i := i) (v := v) (by simpa using h)
    exact ⟨e, by simpa using h1, h2⟩
theorem cr_minD {X : Cx} {k : Nat} (hc : X.calm = true) (hr : Room k X.A) : CallRK X (.builtin "min") [Str.ofString "default"] (rMinD X.K) := by
  intro pins s σ H vs zs us ws Q I r rz h
  obtain ⟨a, xs, ds, d, rfl, rfl, hs, hd, ha, hdep, q0, q1⟩ := h
  obtain rfl := Vals.ref1' r
  cases rz with
  | @cons _ u0 _ _ rd rr =>
    cases rr
    obtain ⟨its, rv, p, hz⟩ := I.list hs
    obtain ⟨as, hre⟩ := Dp.readsAll I ds xs its hd rv
    show wpAny _ _ (call (.builtin "min") [.ref a] [(Str.ofString "default", u0)]) _ _ _
    have hu := hr.units
    refine PySem.W.min_list_default (I.ok.hd hc) p.isList (by simpa using hre) ha (by have := hr.units; omega) (fun e h' tk hk => ⟨d, H, I.kept (t' := tk) hk, rd, q0 e⟩) fun y ys i v h' tk bs e hv hrd hk => ?_
    have hv' : its[i]? = some v := by simpa using hv
    have hi : i < xs.length := by
      have := (List.getElem?_eq_some_iff.mp hv').1
      have := rv.length
      omega
    have hx : xs[i]? = some xs[i] := by simp [hi]
    generalize xs[i] = x at hx
    obtain ⟨u, hu1, ru⟩ := rv.get hx
    rw [hv'] at hu1
    obtain rfl := Option.some.inj hu1
    obtain ⟨ee, he1, he2⟩ := dpAll_get hd hx
    obtain ⟨as2, hr2⟩ := Dp.reads I ee x v he2 ru
    have := (PyProof.Rows.reads_det (fun b o z _ => hk b o z) hr2 hrd).1
    exact ⟨x, H, I.kept (t' := tk) hk, ru, q1 y ys i x ee e hx he1 this.symm⟩

/-! ### C.m(x, ..), m a def of the class at C, read off the class -/
def tClsF (C : Addr) (sp : Sp) (E : XK) (ta : TE) (t : TA) : TE := fun σ H Q => ta σ H fun x H1 => x = .ref C ∧ t σ H1 fun vs H2 => sp vs H2 Q E
theorem pe_clsf {X : Cx} {CX : CXT} {k : Nat} {C f : Addr} {fd : FuncData} {ps : List Str} {mc : Value} {sp : Sp} {E : XK} {o e : Expr} {es : List Expr} {m : Str} {pos apos : Pos} {ta : TE} {t : TA} {pl : Sem Bool}
    (he : PE X o ta) (r : ClX.CRead X.K C mc) (hf : PySem.W.findCls X.K (.ref C) mc m = some (.val (.ref f))) (hk : PySem.W.keepIn X.K (.ref f) = true) (F : FnOk X.prog X.w X.K X.mg X.base CX k f fd ps sp) (hr : Room k X.A) (hb : Binds X.K fd ps []) (hx : Passes CX X E) (ha : PA X (e :: es) t)
    (hst : starEach (e :: es) X.env = (false, eval e X.env) :: starEach es X.env := by rfl) (hpl : (backTo pos (starEach es X.env)).any (·.1) = false := by rfl)
    (ht : eval (.Call (.Attribute o m apos) (e :: es) [] pos) X.env = (do
      let ov ← eval o X.env
      standAt apos.atName
      let (f, first) ← holding [ov] (getMethod ov m pl)
      callWith pos f first (backTo pos (starEach (e :: es) X.env)) (backToKw pos (keywordEach [] X.env))) := by rfl) :
    PE X (.Call (.Attribute o m apos) (e :: es) [] pos) (tClsF C sp E ta t) := by
  refine ⟨fun pins s σ H Q I h => ?_⟩
  refine PySem.W.methodCall_KW (pl := pl) (thn (he.run pins s σ H _ I h) fun u s1 ⟨x, H1, I1, rx, ex, q⟩ => ?_) ht
  subst ex
  obtain rfl : u = Value.ref C := rx
  refine PySem.W.method_cls I1.kIn r.ga (PySem.W.cls_value I1.kIn r.rd hf rfl ?_)
  refine PySem.W.callWith_K (h₀ := X.base) I1.ok.mod.kin hk (thn (ha.run pos pins _ σ H1 _ (I1.tok _) q) fun us s3 ⟨vs, H2, I3, rv, q2⟩ => ⟨I3.kIn, ?_⟩) hst hpl
  have q3 : sp (vs ++ []) H2 Q E := by rw [List.append_nil]; exact q2
  exact run_fn F hr hb .nil hx I3 rv q3

/-! ### X(e, ..) of an own class where what is raised is wished for at the caller's slots -/
def tMakeS (C : Addr) (sp : Sp) (E : St → XK) (t : TA) : TE := fun σ H Q => t σ H fun vs H1 => ∀ x dx, H1 x = none → H1 dx = none → dx ≠ x → sp (.ref x :: vs) (upd (upd H1 dx (.own x)) x (.ins C dx [])) (fun v H2 => v = .non ∧ Q (.ref x) H2) (E σ)
theorem run_makeS {X : Cx} {CX : CXT} {k : Nat} {C f : Addr} {fd : FuncData} {ps : List Str} {sp : Sp} {E : St → XK} {pins : List (Addr × Obj)} {σ : St} {H : Hp} {s : Shared} {Q : VK} {us : List Value} {vs : List V} (M : Mk X.K C f) (F : FnOk X.prog X.w X.K X.mg X.base CX k f fd ps sp) (hr : Room (k + 1) X.A) (hb : Binds X.K fd ps [])
    (hx : PassesAt CX X σ (E σ)) (I : Inv X pins σ H s) (r : Vals vs us)
    (h : ∀ x dx, H x = none → H dx = none → dx ≠ x → sp (.ref x :: vs) (upd (upd H dx (.own x)) x (.ins C dx [])) (fun v H2 => v = .non ∧ Q (.ref x) H2) (E σ)) :
    wpAny (model X.prog X.w) X.A (call (.ref C) us) (EP X pins σ Q) X.xe s := by
  have hq := h (s.heap.objs.size + 1) s.heap.objs.size (I.hok.fresh (Nat.le_succ _)) (I.hok.fresh (Nat.le_refl _)) (Nat.ne_of_lt (Nat.lt_succ_self _))
  have I2 := Inv.made (C := C) I
  have r2 : Vals (V.ref (s.heap.objs.size + 1) :: vs) (Value.ref (s.heap.objs.size + 1) :: us) := .cons rfl r
  have hl : (Value.ref (s.heap.objs.size + 1) :: us).length = ps.length := by
    have e := r2.length
    rw [F.len _ _ _ _ hq] at e
    exact e.symm
  have hb2 := hb { s with heap := s.heap } (Value.ref (s.heap.objs.size + 1) :: us)
  refine wpAny_call (make_map (f := f) I.kIn M.makes M.init (beq_iff_eq.mp M.fn) (codeAny_mono (F.run _ X.stack _ _ ⟨Value.ref (s.heap.objs.size + 1) :: us, []⟩ (Value.ref (s.heap.objs.size + 1) :: us) _ _ (E σ) (hr.make C us [])
    (I2.env0.make C us []) (by have z := hb _ (Value.ref (s.heap.objs.size + 1) :: us) I2.kIn (by rw [List.append_nil]; exact hl); rw [List.append_nil] at z; exact z) r2 hq) fun r s' hq' => ?_))
  cases r with
  | error e => exact hx pins _ _ e s' I2 hq'
  | ok fl =>
    cases fl with
    | ret u =>
      obtain ⟨v, H', I3, rv, ev, q3⟩ := I2.after hq'
      subst ev
      exact ⟨rv, ⟨V.ref (s.heap.objs.size + 1), H', I3, rfl, q3⟩⟩
    | next => exact False.elim hq'
    | brk => exact False.elim hq'
    | cont => exact False.elim hq'
theorem pe_makeS {X : Cx} {CX : CXT} {k : Nat} {C f : Addr} {fd : FuncData} {ps : List Str} {sp : Sp} {E : St → XK} {x : Str} {p pos : Pos} {e : Expr} {es : List Expr} {t : TA} (M : Mk X.K C f) (F : FnOk X.prog X.w X.K X.mg X.base CX k f fd ps sp) (hr : Room (k + 1) X.A) (hg : Gl X x) (hm : X.mg x = some (.ref C)) (hb : Binds X.K fd ps []) (hx : ∀ σ, PassesAt CX X σ (E σ))
    (ha : PA X (e :: es) t) (hdb : (x == ("__debug__" : Str)) = false := by decide) (he : starEach (e :: es) X.env = (false, eval e X.env) :: starEach es X.env := by rfl) (hpl : (backTo pos (starEach es X.env)).any (·.1) = false := by rfl) :
    PE X (.Call (.Name x p) (e :: es) [] pos) (tMakeS C sp E t) := by
  refine ⟨fun pins s σ H Q I h => ?_⟩
  refine wpAny_Call_Name_kw (ld_glob I hg hm ?_ hdb)
  refine PySem.W.callWith_K (h₀ := X.base) I.ok.mod.kin M.kp (thn (ha.run pos pins s σ H _ I h) fun us s1 ⟨vs, H1, I1, r, q⟩ => ⟨I1.kIn, ?_⟩) he hpl
  exact run_makeS M F hr hb (hx σ) I1 r q
end L2
set_option Elab.async false
set_option linter.all false
set_option maxRecDepth 100000
set_option maxHeartbeats 2000000
namespace My
open PySem L2 SS
/-! ### the text by places -/
def top (i : Nat) : Stmt := PySem.Challenge.pw_sendstead_k07_names.main.body.getD i (.Pass ⟨0, 0, 0, 0⟩)
abbrev tl (z : Str) : T := z.cps.toList
abbrev mk (l : T) : Str := ⟨l.toArray⟩
theorem tl_mk (l : T) : tl (mk l) = l := rfl
theorem mk_tl (z : Str) : mk (tl z) = z := by cases z; simp
theorem len_tl (z : Str) : (tl z).length = z.length := by simp [Str.length]
theorem same_new {H : Hp} {p : Addr} (h : H p = none) (o : HO) : Same H (upd H p o) := fun b u q => by rw [upd_ne (ne_of_none q h)]; exact q
theorem same_upd {H H' : Hp} {p : Addr} (s : Same H H') (h : H p = none) (o : HO) : Same H (upd H' p o) := fun b u q => by rw [upd_ne (ne_of_none q h)]; exact s b u q
/-- a text of the module's own, a number, a tuple -/
def GS (mg : Str → Option Value) (x : Str) (z : Str) : Prop := ∃ u, mg x = some u ∧ RelV (.str z) u
def GI (mg : Str → Option Value) (x : Str) (i : Int) : Prop := ∃ u, mg x = some u ∧ RelV (.int i) u
def GT (K : PySem.W.Frag) (mg : Str → Option Value) (x : Str) (zs : List Str) : Prop := ∃ a, mg x = some (.ref a) ∧ ∀ H, SqT K H a (zs.map V.str)
def KEPTs : List Str := ["do", "else", "end", "false", "field", "if", "kind", "method", "more", "new", "none", "raise", "return", "say", "self", "taken", "then", "true", "try", "under", "up", "while"]

/-! ### defs by their names, methods by their class -/
structure Dn (K : PySem.W.Frag) (mg : Str → Option Value) (x : Str) (st : Stmt) : Prop where
  ex : ∃ f fd, Fun K x x st f fd ∧ mg x = some (.ref f)
structure Cc (P : Program) (w : World) (K : PySem.W.Frag) (mg : Str → Option Value) (base : Heap) (CX : CXT) (k : Nat) (x : Str) (sp : Sp) : Prop where
  ex : ∃ f fd ps, FnOk P w K mg base CX k f fd ps sp ∧ mg x = some (.ref f) ∧ PySem.W.keepIn K (.ref f) = true ∧ Binds K fd ps []
theorem pe_cc {X : Cx} {CX : CXT} {k j : Nat} {x : Str} {sp : Sp} {E : XK} {p pos : Pos} {e : Expr} {es : List Expr} {t : TA} (c : Cc X.prog X.w X.K X.mg X.base CX k x sp) (hr : Room j X.A) (hk : k ≤ j) (hx : Passes CX X E) (ha : PA X (e :: es) t) (hg : Gl X x := by rfl)
    (hdb : (x == ("__debug__" : Str)) = false := by decide) (he : starEach (e :: es) X.env = (false, eval e X.env) :: starEach es X.env := by rfl) (hpl : (backTo pos (starEach es X.env)).any (·.1) = false := by rfl) :
    PE X (.Call (.Name x p) (e :: es) [] pos) (tCall sp [] E t) := by
  obtain ⟨f, fd, ps, F, hm, kp, hb⟩ := c.ex
  exact pe_call F (hr.mono hk) hg hm kp hb .nil hx ha hdb he hpl
theorem pe_gs {X : Cx} {x z : Str} {pos : Pos} (h : GS X.mg x z) (hg : Gl X x := by rfl) (hd : (x == ("__debug__" : Str)) = false := by decide) : PE X (.Name x pos) (tC (.str z)) := by
  obtain ⟨u, hm, r⟩ := h
  exact pe_glob hg hm r hd
theorem pe_gi {X : Cx} {x : Str} {i : Int} {pos : Pos} (h : GI X.mg x i) (hg : Gl X x := by rfl) (hd : (x == ("__debug__" : Str)) = false := by decide) : PE X (.Name x pos) (tC (.int i)) := by
  obtain ⟨u, hm, r⟩ := h
  exact pe_glob hg hm r hd
def tGT (K : PySem.W.Frag) (zs : List Str) : TE := fun _ H Q => ∀ a, SqT K H a (zs.map V.str) → Q (.ref a) H
theorem pe_gt {X : Cx} {x : Str} {zs : List Str} {pos : Pos} (h : GT X.K X.mg x zs) (hg : Gl X x := by rfl) (hd : (x == ("__debug__" : Str)) = false := by decide) : PE X (.Name x pos) (tGT X.K zs) := by
  obtain ⟨a, hm, r⟩ := h
  exact ⟨fun pins s σ H Q I q => (pe_glob (v := .ref a) hg hm rfl hd).run pins s σ H Q I (q a (r H))⟩
/-- what the module's top has -/
structure TxS (K : PySem.W.Frag) (mg : Str → Option Value) : Prop where
  len : mg "len" = none
  all : mg "all" = none
  mn : mg "min" = none
  tup : mg "tuple" = none
  int : mg "int" = none
  str : mg "str" = none
  enum : mg "enumerate" = none
section
variable {P : Program} {w : World} {K : PySem.W.Frag} {mg : Str → Option Value} {base : Heap}
abbrev C0 (P : Program) (w : World) (K : PySem.W.Frag) (mg : Str → Option Value) (base : Heap) (k : Nat) (x : Str) (sp : Sp) : Prop := Cc P w K mg base CX0 k x sp
/-- a def that only tells: its answer, what stood stands -/
def spB (g : T → Bool) : Sp := fun vs H Q _ => ∃ z : Str, vs = [.str z] ∧ z.length ≤ 100000 ∧ ∀ H', Same H H' → Q (.bl (g (tl z))) H'
/-! is_name -/
def spName : Sp := fun vs H Q _ => ∃ z s1 s2 : Str, vs = [.str z, .str s1, .str s2] ∧ z.length ≤ 100000 ∧ ∀ H', Same H H' → Q (.bl (isName (tl z) (tl s1) (tl s2))) H'
/-! is_small, is_kind_name -/
theorem small_add (a b : T) : mk a ++ mk b = mk (a ++ b) := by
  show (⟨a.toArray ++ b.toArray⟩ : Str) = _
  simp
/-! is_text -/
/-! is_free -/
def isFree (l : T) : Bool := isSmall l && !(KEPTs.any fun k => k == mk l) && !(l == [122, 122])
theorem inV_strs (z : Str) (zs : List Str) : inV (.str z) (zs.map V.str) = zs.any fun k => k == z := by
  unfold inV
  rw [List.any_map]
  rfl
theorem flat_strs (zs : List Str) : (zs.map V.str).all flatV = true := by
  rw [List.all_map]
  exact List.all_eq_true.mpr fun _ _ => rfl
end
end My
set_option Elab.async false
set_option linter.all false
set_option maxRecDepth 100000
set_option maxHeartbeats 2000000
namespace My
open PySem L2 SS
/-! ### numbers, words: the functions -/
def figsOf : T → T
  | 45 :: cs => cs
  | l => l
def numOf : T → Int
  | 45 :: cs => -((NumText.digitsVal cs : Nat) : Int)
  | l => ((NumText.digitsVal l : Nat) : Int)
def numStr (n : Int) : Str := Str.ofString (toString n)
def isNum (l : T) : Bool := decide (1 ≤ (figsOf l).length ∧ (figsOf l).length ≤ 13) && (hasOnly (figsOf l) FIGS && (decide (numStr (numOf l) = mk l) && (decide (-1000000000000 < numOf l) && decide (numOf l < 1000000000000))))
def BRs : List Str := [mk [40], mk [41], mk [123], mk [125], mk [91], mk [93], mk [124]]
def MARKs : List Str := [mk [43], mk [45], mk [42], mk [47], mk [60], mk [61], mk [58, 61], mk [58]]
def inS (zs : List Str) (l : T) : Bool := zs.any fun k => k == mk l
def isWord (l : T) : Bool :=
  if inS BRs l = true ∨ inS MARKs l = true then true
  else if l.head? = some 64 then isSmall (l.drop 1)
  else if l.head? = some 39 then isText (l.drop 1)
  else isSmall l || (isKindName l || isNum l)
theorem fold_lt : ∀ (cs : T) (a : Nat), NumText.AllDigits cs → cs.foldl (fun acc c => acc * 10 + (c - 48)) a < (a + 1) * 10 ^ cs.length
  | [], a, _ => by simp
  | c :: cs, a, h => by
    have hc := h c List.mem_cons_self
    have ih := fold_lt cs (a * 10 + (c - 48)) (fun d hd => h d (List.mem_cons_of_mem _ hd))
    rw [List.foldl_cons, List.length_cons]
    have e : (a * 10 + (c - 48) + 1) * 10 ^ cs.length ≤ ((a + 1) * 10) * 10 ^ cs.length := Nat.mul_le_mul_right _ (by omega)
    have e2 : (a + 1) * 10 ^ (cs.length + 1) = ((a + 1) * 10) * 10 ^ cs.length := by rw [Nat.pow_succ, Nat.mul_assoc, Nat.mul_comm 10]
    omega
theorem digits_lt {cs : T} (h : NumText.AllDigits cs) (hl : cs.length ≤ 13) : NumText.digitsVal cs < 10 ^ 13 := by
  have h1 := fold_lt cs 0 h
  have h2 : 10 ^ cs.length ≤ 10 ^ 13 := Nat.pow_le_pow_right (by decide) hl
  unfold NumText.digitsVal
  omega
theorem figs_digits {l : T} (h : hasOnly l FIGS = true) : NumText.AllDigits l := fun c hc => by
  unfold hasOnly at h
  have := of_decide_eq_true (List.all_eq_true.mp h c hc)
  simp [FIGS] at this
  omega
theorem log_small {n : Nat} (h : n < 10 ^ 13) : n.log2 < 1920 := by
  by_cases e : n = 0
  · subst e; decide
  · exact (Nat.log2_lt e).mpr (Nat.lt_of_lt_of_le h (by decide +kernel))
theorem num_facts {l : T} (h1 : 1 ≤ (figsOf l).length) (h2 : (figsOf l).length ≤ 13) (h3 : hasOnly (figsOf l) FIGS = true) : intText? (mk l) = some (numOf l) ∧ (numOf l).natAbs.log2 < 1920 ∧ (mk l).length ≤ 14 := by
  have hd := figs_digits h3
  have hne : figsOf l ≠ [] := fun z => by rw [z] at h1; simp at h1
  have hl : (mk l).length = l.length := by show l.toArray.size = _; simp
  rcases l with _ | ⟨c, cs⟩
  · simp [figsOf] at h1
  · by_cases hc : c = 45
    · subst hc
      have e : figsOf (45 :: cs) = cs := rfl
      rw [e] at h1 h2 hd hne
      refine ⟨intText_neg (cs := cs) rfl hd hne (by rw [hl, List.length_cons]; omega), ?_, by rw [hl, List.length_cons]; omega⟩
      show (-((NumText.digitsVal cs : Nat) : Int)).natAbs.log2 < 1920
      rw [Int.natAbs_neg]
      exact log_small (digits_lt hd h2)
    · have e : figsOf (c :: cs) = c :: cs := by
        unfold figsOf
        split
        · rename_i heq
          exact absurd (List.cons.inj heq).1 hc
        · rfl
      have e2 : numOf (c :: cs) = ((NumText.digitsVal (c :: cs) : Nat) : Int) := by
        unfold numOf
        split
        · rename_i heq
          exact absurd (List.cons.inj heq).1 hc
        · rfl
      rw [e] at h1 h2 hd hne
      rw [e2]
      exact ⟨intText_digits (x := mk (c :: cs)) hd hne (by rw [hl]; omega), log_small (digits_lt hd h2), by rw [hl]; omega⟩
theorem mk_len (l : T) : (mk l).length = l.length := by show l.toArray.size = _; simp
theorem removed (z : Str) : Txt.removeprefix z "-" = mk (figsOf (tl z)) := by
  obtain ⟨⟨l⟩⟩ := z
  have e0 : (Str.ofString "-") = ⟨#[45]⟩ := by decide +kernel
  show Txt.removeprefix ⟨⟨l⟩⟩ (Str.ofString "-") = mk (figsOf l)
  rw [e0]
  unfold Txt.removeprefix
  rcases l with _ | ⟨c, cs⟩
  · rfl
  · have hs : Builtin.Str.subAt ⟨⟨c :: cs⟩⟩ ⟨#[45]⟩ 0 = decide (c = 45) := by
      unfold Builtin.Str.subAt
      have : (⟨c :: cs⟩ : Array Nat).extract 0 (0 + (⟨#[45]⟩ : Str).length) = #[c] := by
        apply Array.toList_inj.mp
        simp [Str.length, Array.toList_extract, List.extract]
      show ((⟨c :: cs⟩ : Array Nat).extract 0 (0 + (⟨#[45]⟩ : Str).length) == #[45]) = _
      rw [this]
      by_cases h : c = 45
      · subst h; rfl
      · rw [decide_eq_false h]
        simp [h]
    rw [hs]
    by_cases h : c = 45
    · subst h
      rw [if_pos (by simp)]
      unfold Txt.affix
      show (if (cs.length + 1) - 1 == cs.length + 1 then _ else _) = _
      rw [if_neg (by simp)]
      unfold Builtin.Str.strSub
      show (⟨(⟨45 :: cs⟩ : Array Nat).extract 1 (cs.length + 1)⟩ : Str) = mk cs
      congr 1
      apply Array.toList_inj.mp
      simp [Array.toList_extract, List.extract]
    · rw [if_neg (by simp [h])]
      have e : figsOf (c :: cs) = c :: cs := by
        unfold figsOf
        split
        · rename_i heq
          exact absurd (List.cons.inj heq).1 h
        · rfl
      rw [e]
      rfl
theorem starts1 (z : Str) (c : Nat) : Txt.startswith z (mk [c]) = decide ((tl z).head? = some c) := by
  obtain ⟨⟨l⟩⟩ := z
  unfold Txt.startswith
  rcases l with _ | ⟨d, ds⟩
  · rfl
  · have hs : Builtin.Str.subAt ⟨⟨d :: ds⟩⟩ (mk [c]) 0 = decide (d = c) := by
      unfold Builtin.Str.subAt
      have : (⟨d :: ds⟩ : Array Nat).extract 0 (0 + (mk [c]).length) = #[d] := by
        apply Array.toList_inj.mp
        simp [Str.length, Array.toList_extract, List.extract]
      show ((⟨d :: ds⟩ : Array Nat).extract 0 (0 + (mk [c]).length) == #[c]) = _
      rw [this]
      by_cases h : d = c
      · subst h; simp
      · rw [decide_eq_false h]
        simp [h]
    rw [hs]
    show (decide (0 + 1 ≤ ds.length + 1) && decide (d = c)) = decide ((d :: ds).head? = some c)
    rw [decide_eq_true (by omega), Bool.true_and]
    simp
theorem cut1 (z : Str) : cutS z (some 1) none = mk ((tl z).drop 1) := by
  unfold cutS
  rw [HT.sIx_none]
  have h : HT.sIx z.length 0 (some 1) = min 1 z.length := HT.sIx_nat z.length 0 1
  rw [h]
  have hl := len_tl z
  have e : (List.take (z.length - min 1 z.length) (List.drop (min 1 z.length) z.cps.toList)) = (tl z).drop 1 := by
    rw [List.take_of_length_le (by rw [List.length_drop, hl]; omega)]
    by_cases h0 : z.length = 0
    · have : tl z = [] := List.eq_nil_of_length_eq_zero (by omega)
      show List.drop _ (tl z) = _
      rw [this]
      simp
    · rw [show min 1 z.length = 1 by omega]
  rw [e]
theorem cut_sl (z : Str) {a b : Nat} (h : b ≤ z.length) : cutS z (some (a : Nat)) (some (b : Nat)) = mk (sl (tl z) a b) := by
  unfold cutS
  rw [HT.sIx_nat, HT.sIx_nat]
  have hl := len_tl z
  unfold sl
  by_cases ha : a ≤ z.length
  · rw [show min a z.length = a by omega, show min b z.length = b by omega]
  · have e1 : (tl z).drop a = [] := List.drop_eq_nil_of_le (by omega)
    rw [e1, List.drop_eq_nil_of_le (by rw [hl]; omega)]
    simp
theorem dec_str (a b : Str) : decide (V.str a = V.str b) = decide (a = b) := by
  by_cases h : a = b
  · subst h; simp
  · rw [decide_eq_false h, decide_eq_false (fun z => h (V.str.inj z))]
section
variable {P : Program} {w : World} {K : PySem.W.Frag} {mg : Str → Option Value} {base : Heap}
theorem big_len : (Str.ofString (toString (1000000000000 : Int))).length = 13 := by decide +kernel
end
end My
set_option Elab.async false
set_option linter.all false
set_option maxRecDepth 100000
set_option maxHeartbeats 2000000
namespace My
open PySem L2 SS
/-! ### things that stand in tuples -/
def AtT {α : Type} (f : α → List V) (H : Hp) (v : V) (q : α) : Prop := ∃ p, v = .ref p ∧ H p = some (.tup (f q))
inductive AllT {α : Type} (f : α → List V) (H : Hp) : List V → List α → Prop
  | nil : AllT f H [] []
  | cons {v : V} {q : α} {vs : List V} {qs : List α} : AtT f H v q → AllT f H vs qs → AllT f H (v :: vs) (q :: qs)
/-- tuples stand -/
def Tups (H H' : Hp) : Prop := ∀ p xs, H p = some (.tup xs) → H' p = some (.tup xs)
theorem same_tups {H H' : Hp} (s : Same H H') : Tups H H' := fun p xs h => s p _ h
theorem Tups.trans {H H1 H2 : Hp} (a : Tups H H1) (b : Tups H1 H2) : Tups H H2 := fun p xs h => b p xs (a p xs h)
theorem tups_new {H : Hp} {p : Addr} (h : H p = none) (o : HO) : Tups H (upd H p o) := same_tups (same_new h o)
theorem tups_lst {H : Hp} {p : Addr} {xs ys : List V} (h : H p = some (.lst xs)) : Tups H (upd H p (.lst ys)) := fun b u q => by
  rw [upd_ne (ne_of q h (by intro z; cases z))]; exact q
section
variable {α : Type} {f : α → List V} {H H' : Hp}
theorem AllT.on : ∀ {vs : List V} {qs : List α}, AllT f H vs qs → Tups H H' → AllT f H' vs qs
  | _, _, .nil, _ => .nil
  | _, _, .cons ⟨p, e, h⟩ r, t => .cons ⟨p, e, t _ _ h⟩ (r.on t)
theorem AllT.append : ∀ {vs ws : List V} {qs rs : List α}, AllT f H vs qs → AllT f H ws rs → AllT f H (vs ++ ws) (qs ++ rs)
  | _, _, _, _, .nil, h => h
  | _, _, _, _, .cons a r, h => .cons a (r.append h)
theorem AllT.length : ∀ {vs : List V} {qs : List α}, AllT f H vs qs → vs.length = qs.length
  | _, _, .nil => rfl
  | _, _, .cons _ r => by rw [List.length_cons, List.length_cons, r.length]
theorem AllT.get : ∀ {vs : List V} {qs : List α} {i : Nat} {v : V}, AllT f H vs qs → vs[i]? = some v → ∃ q, qs[i]? = some q ∧ AtT f H v q
  | _, _, i, v, .nil, h => by simp at h
  | _, _, 0, v, .cons a r, h => by simp at h; subst h; exact ⟨_, rfl, a⟩
  | _, _, i + 1, v, .cons a r, h => by
    obtain ⟨q, h1, h2⟩ := r.get (i := i) (v := v) (by simpa using h)
    exact ⟨q, by simpa using h1, h2⟩
/-- a list that is being made, its items in tuples -/
def LS (f : α → List V) (H H1 : Hp) (l : Addr) (ps : List α) : Prop := Same H H1 ∧ H l = none ∧ ∃ vs, H1 l = some (.lst vs) ∧ AllT f H1 vs ps
theorem LS.new {H1 : Hp} {l p : Addr} {ps : List α} (h : LS f H H1 l ps) (n : H1 p = none) (o : HO) : LS f H (upd H1 p o) l ps := by
  obtain ⟨s, hl, vs, h1, h2⟩ := h
  exact ⟨s.trans (same_new n o), hl, vs, by rw [upd_ne (ne_of_none h1 n)]; exact h1, h2.on (tups_new n o)⟩
theorem LS.push {H1 : Hp} {l p : Addr} {ps : List α} {q : α} (h : LS f H H1 l ps) (hp : H1 p = some (.tup (f q))) : ∃ vs, H1 l = some (.lst vs) ∧ vs.length = ps.length ∧ LS f H (upd H1 l (.lst (vs ++ [.ref p]))) l (ps ++ [q]) := by
  obtain ⟨s, hl, vs, h1, h2⟩ := h
  refine ⟨vs, h1, h2.length, fun b u e => ?_, hl, _, upd_same, ?_⟩
  · rw [upd_ne (ne_of_none e hl)]
    exact s b u e
  · have t : Tups H1 (upd H1 l (.lst (vs ++ [.ref p]))) := tups_lst h1
    exact (h2.on t).append (.cons ⟨p, rfl, t _ _ hp⟩ .nil)
end
def fP (q : List Nat × Nat) : List V := [.str (mk q.1), .int (q.2 : Nat)]
def fW (q : W) : List V := [.str (mk q.1), .int (q.2.1 : Nat), .int (q.2.2 : Nat)]
section
variable {P : Program} {w : World} {K : PySem.W.Frag} {mg : Str → Option Value} {base : Heap}
/-! ### is_word -/
theorem s_at : (Str.ofString "@") = mk [64] := by decide +kernel
theorem s_quote : (Str.ofString "'") = mk [39] := by decide +kernel
/-! ### words_of_row -/
def spRow : Sp := fun vs H Q _ => ∃ z : Str, vs = [.str z] ∧ z.length ≤ 100000 ∧ ∀ (H' : Hp) (l : Addr) (us : List V), Same H H' → H l = none → H' l = some (.lst us) → AllT fP H' us (rowWords (tl z)) → Q (.ref l) H'
def RowInv (L : List Nat) (i a : Nat) (ps : List (List Nat × Nat)) : Prop := (i ≤ L.length ∧ a ≤ i ∧ ps ++ rw_ (sl L a i) (i + 1) (L.drop i) = rowWords L) ∨ (i = L.length + 1 ∧ ps = rowWords L)
theorem RowInv.len {L : List Nat} {i a : Nat} {ps : List (List Nat × Nat)} (h : RowInv L i a ps) : ps.length ≤ 2 * L.length := by
  have := rowWords_len L
  rcases h with ⟨_, _, h⟩ | ⟨_, h⟩
  · rw [← h, List.length_append] at this
    omega
  · rw [h]; exact this
theorem s_blank : (Str.ofString " ") = mk [32] := by decide +kernel
theorem sep_in (c : Nat) : inS BRs [c] = decide (c ∈ BR) := by
  have e : ∀ d : Nat, ((mk [d]) == mk [c]) = decide (c = d) := fun d => by
    by_cases h : c = d
    · subst h; simp
    · rw [decide_eq_false h]
      apply beq_eq_false_iff_ne.mpr
      intro z
      have z2 := congrArg (fun s => s.cps.toList) z
      simp at z2
      exact h z2.symm
  unfold inS BRs BR
  simp only [List.any_cons, List.any_nil, e, List.mem_cons, List.not_mem_nil, Bool.decide_or, Bool.or_false, or_false]
end
end My
set_option Elab.async false
set_option linter.all false
set_option maxRecDepth 100000
set_option maxHeartbeats 2000000
namespace My
open PySem L2 SS
def oN : Option Nat → V
  | none => .non
  | some c => .int (c : Nat)
theorem foldMin : ∀ (ns : List Int) (n : Int), (ns.foldl min n) ∈ n :: ns ∧ ∀ y ∈ n :: ns, ns.foldl min n ≤ y
  | [], n => by simp
  | k :: r, n => by
    have ih := foldMin r (min n k)
    rw [List.foldl_cons]
    constructor
    · rcases List.mem_cons.mp ih.1 with h | h
      · rw [h]
        by_cases c : n ≤ k
        · rw [Int.min_eq_left c]; simp
        · rw [Int.min_eq_right (by omega)]; simp
      · exact List.mem_cons_of_mem _ (List.mem_cons_of_mem _ h)
    · intro y hy
      have h0 := ih.2 (min n k) List.mem_cons_self
      rcases List.mem_cons.mp hy with h | h
      · subst h; omega
      · rcases List.mem_cons.mp h with h | h
        · subst h; omega
        · exact ih.2 y (List.mem_cons_of_mem _ h)
theorem minOf_ints {c : Nat} {r : List Nat} {m : Int} (h : m = (r.map fun (k : Nat) => (k : Int)).foldl min ((c : Nat) : Int)) : ∃ k, minOf (c :: r) = some k ∧ m = (k : Nat) := by
  have f := foldMin (r.map fun (k : Nat) => (k : Int)) ((c : Nat) : Int)
  rw [← h] at f
  have e : ((c : Nat) : Int) :: (r.map fun (k : Nat) => (k : Int)) = (c :: r).map fun (k : Nat) => (k : Int) := rfl
  rw [e] at f
  obtain ⟨k, hk, ek⟩ := List.mem_map.mp f.1
  refine ⟨k, minOf_some.mpr ⟨hk, fun y hy => ?_⟩, ek.symm⟩
  have := f.2 ((y : Nat) : Int) (List.mem_map.mpr ⟨y, hy, rfl⟩)
  omega
section
variable {P : Program} {w : World} {K : PySem.W.Frag} {mg : Str → Option Value} {base : Heap}
def spWrong : Sp := fun vs H Q _ => ∃ (a : Addr) (n : Nat) (us : List V) (ps : List (List Nat × Nat)), vs = [.ref a, .int (n : Nat)] ∧ H a = some (.lst us) ∧ AllT fP H us ps ∧ (∀ q ∈ ps, q.1.length ≤ 100000) ∧ ps.length ≤ 300000 ∧ ∀ H', Same H H' → Q (oN (wrongCol isWord ps n)) H'
theorem alike_ints (ns : List Int) : PySem.W.AlikeAll (ns.map PyData.int) := by
  refine ⟨fun x hx y hy => ?_, fun x hx => ?_⟩
  · obtain ⟨a, _, rfl⟩ := List.mem_map.mp hx
    obtain ⟨b, _, rfl⟩ := List.mem_map.mp hy
    rfl
  · obtain ⟨a, _, rfl⟩ := List.mem_map.mp hx
    intro z
    cases z
theorem depth_ints : ∀ ns : List Int, PyData.depthAll (ns.map PyData.int) ≤ 20
  | [] => by decide
  | n :: r => by
    have := depth_ints r
    show max (PyData.depth (.int n)) (PyData.depthAll (r.map PyData.int)) ≤ 20
    exact Nat.max_le.mpr ⟨by show 0 ≤ 20; decide, this⟩
theorem dp_ints {H : Hp} : ∀ ns : List Int, DpAll K H (ns.map V.int) (ns.map PyData.int)
  | [] => .nil
  | n :: r => .cons (.int n) (dp_ints r)
end
end My
set_option Elab.async false
set_option linter.all false
set_option maxRecDepth 100000
set_option maxHeartbeats 2000000
namespace My
open PySem L2 SS
theorem LS.pushAll {α : Type} {f : α → List V} {H H1 : Hp} {l : Addr} {ps qs : List α} {us : List V} (h : LS f H H1 l ps) (hq : AllT f H1 us qs) : ∃ vs, H1 l = some (.lst vs) ∧ vs.length = ps.length ∧ LS f H (upd H1 l (.lst (vs ++ us))) l (ps ++ qs) := by
  obtain ⟨s, hl, vs, h1, h2⟩ := h
  refine ⟨vs, h1, h2.length, fun b u e => ?_, hl, _, upd_same, ?_⟩
  · rw [upd_ne (ne_of_none e hl)]
    exact s b u e
  · have t : Tups H1 (upd H1 l (.lst (vs ++ us))) := tups_lst h1
    exact (h2.on t).append (hq.on t)
theorem lay_len (r : Nat) (p : List (List Nat × Nat)) : (lay r p).length = p.length := by unfold lay; rw [List.length_map]
theorem scanGo_len {isW : List Nat → Bool} : ∀ (ls : List (List Nat)) (r : Nat), (∀ l ∈ ls, l.length ≤ 1000) → (scanGo isW r ls).1.length ≤ 2000 * ls.length
  | [], r, _ => by simp [scanGo]
  | l :: ls, r, h => by
    have hl := h l List.mem_cons_self
    have ih := scanGo_len ls (r + 1) (fun x hx => h x (List.mem_cons_of_mem _ hx)) (isW := isW)
    have hr := rowWords_len l
    rw [scanGo, List.length_cons]
    split
    · rename_i c _
      have := List.length_filter_le (fun q : List Nat × Nat => decide (q.2 < c)) (rowWords l)
      show (lay r ((rowWords l).filter fun q => decide (q.2 < c))).length ≤ _
      rw [lay_len]
      refine Nat.le_trans this ?_
      omega
    · show (lay _ _ ++ _).length ≤ _
      rw [List.length_append, lay_len]
      omega
def StopAt (H : Hp) (v : V) : Option (Nat × Nat) → Prop
  | none => v = .non
  | some p => ∃ q, v = .ref q ∧ H q = some (.tup [.int (p.1 : Nat), .int (p.2 : Nat)])
def nl : Str := Str.ofString "\n"
/-- a text whose rows are neither many nor long -/
def Fits (z : Str) (rs : List Str) : Prop := Txt.split z nl = rs ∧ z.length ≤ 100000 ∧ rs.length ≤ 1000 ∧ ∀ r ∈ rs, r.length ≤ 1000
def spScan : Sp := fun vs H Q _ => ∃ (z : Str) (rs : List Str), vs = [.str z] ∧ Fits z rs ∧
  ∀ (H' : Hp) (p wl : Addr) (st : V) (us : List V), Same H H' → H' p = some (.tup [.ref wl, st]) → H' wl = some (.tup us) → AllT fW H' us (scan isWord (rs.map tl)).1 → us.length ≤ 600000 → StopAt H' st (scan isWord (rs.map tl)).2 → Q (.ref p) H'
theorem LS.same {α : Type} {f : α → List V} {H H1 H2 : Hp} {l : Addr} {ps : List α} (h : LS f H H1 l ps) (s : Same H1 H2) : LS f H H2 l ps := by
  obtain ⟨s0, hl, vs, h1, h2⟩ := h
  exact ⟨s0.trans s, hl, vs, s _ _ h1, h2.on (same_tups s)⟩
theorem rw_wlen : ∀ (r cur : List Nat) (k : Nat), ∀ q ∈ rw_ cur k r, q.1.length ≤ cur.length + r.length + 1
  | [], cur, k, q, h => by
    rw [rw_] at h
    unfold flush at h
    split at h
    · simp at h
    · simp at h; subst h; show cur.length ≤ _; omega
  | c :: r, cur, k, q, h => by
    rw [rw_] at h
    rw [List.length_cons]
    split at h
    · rcases List.mem_append.mp h with h | h
      · rcases List.mem_append.mp h with h | h
        · unfold flush at h
          split at h
          · simp at h
          · simp at h; subst h; show cur.length ≤ _; omega
        · split at h
          · simp at h
          · simp at h; subst h; show 1 ≤ _; omega
      · have := rw_wlen r [] (k + 1) q h
        rw [List.length_nil] at this
        omega
    · have := rw_wlen r (cur ++ [c]) (k + 1) q h
      rw [List.length_append] at this
      simp only [List.length_cons, List.length_nil] at this
      omega
def condW : Option Nat → (List Nat × Nat) → Bool
  | none, _ => true
  | some c, q => decide (q.2 < c)
section
variable {P : Program} {w : World} {K : PySem.W.Frag} {mg : Str → Option Value} {base : Heap}
theorem cut300 (xs : List V) : cutV xs none (some (300 : Int)) = xs.take 300 := by
  unfold cutV
  rw [HT.sIx_none, show (300 : Int) = ((300 : Nat) : Int) from rfl, HT.sIx_nat, List.drop_zero, Nat.sub_zero]
  rcases Nat.lt_or_ge 300 xs.length with h | h
  · rw [Nat.min_eq_left (by omega)]
  · rw [Nat.min_eq_right h, List.take_length, List.take_of_length_le h]
end
end My
set_option Elab.async false
set_option linter.all false
set_option maxRecDepth 100000
set_option maxHeartbeats 2000000
namespace My
open PySem L2 SS
abbrev sDeck : Stmt := top 9
abbrev sNext : Stmt := top 10
structure TxL (mg : Str → Option Value) : Prop where
  range : mg "range" = none
  mn : mg "min" = none
section
variable {P : Program} {w : World} {K : PySem.W.Frag} {mg : Str → Option Value} {base : Heap} {S CF fI fS C CP fF fK : Addr}
def Small (xs : List Int) : Prop := ∀ v ∈ xs, 0 ≤ v ∧ v < 2147483648
/-- the deck at p: its place, its row of draws at l -/
theorem atI_0 {α : Type} {y : α} {ys : List α} : atI (y :: ys) 0 = some y := atI_nat (j := 0) rfl
def DeckAt (H : Hp) (p l : Addr) (a : Nat) (b : Int) (xs : List Int) : Prop := H p = some (.lst [.int (a : Nat), .ref l, .int b]) ∧ H l = some (.lst (xs.map V.int)) ∧ p ≠ l ∧ Small xs ∧ xs.length ≤ 5000
def spDeck (K : PySem.W.Frag) : Sp := fun vs H Q _ => ∃ (a : Addr) (ns : List Int), vs = [.ref a] ∧ SqL K H a (ns.map V.int) ∧ ns.length ≤ 63 ∧
  ∀ (H' : Hp) (p l : Addr) (xs : List Int), Same H H' → H p = none → H l = none → DeckAt H' p l 0 70 xs → Q (.ref p) H'
theorem scDeck : FnScope ["_law_script", "_law_row", "_law_k", "_law_cell", "_law_n", "_law_one"] ["_law_script"] (defScope sDeck) := ⟨rfl, rfl, rfl, by decide +kernel, rfl, by decide +kernel, by decide +kernel⟩
theorem c_deck (TS : TxS K mg) (T : TxL mg) (D : Dn K mg "_law_deck" sDeck) : C0 P w K mg base 1 "_law_deck" (spDeck K) := by
  obtain ⟨f, fd, F, m⟩ := D.ex
  refine ⟨f, fd, ["_law_script"], F.ok scDeck (fun vs H Q E h => ?_) (fun cdv A outer s H vs Q E hr h => ?_), m, F.kp, F.binds (ps := ["_law_script"]) fun _ _ _ _ _ _ us hl => match us, hl with | [_], _ => rfl⟩
  · obtain ⟨a, ns, rfl, _⟩ := h
    rfl
  obtain ⟨a, ns, rfl, hS, h63, k⟩ := h
  refine ⟨_, pss_cons (ps_set (i := 1) scDeck.nd rfl (Or.inl rfl) (pe_lst pa_nil)) <|
    pss_cons (ps_for PassesOwn.never rfl (pi_range1 rfl T.range (pa_cons (pe_callB (call_min2 rfl) (by rfl) T.mn (by decide +kernel) (pa_cons (pe_callB call_len_seq (by rfl) TS.len PySem.boot_len (pa_cons (pv 0) pa_nil)) (pa_cons pe_int pa_nil))) pa_nil)) (pg_name (i := 2) scDeck.nd rfl (Or.inl rfl)) <|
      pss_cons (ps_set (i := 3) scDeck.nd rfl (Or.inl rfl) (pe_ix ix_list (pv 0) (pv 2) (fun _ _ => rfl))) <|
      pss_one (ps_if (pt_cmpR op_ge (pv 3) (pe_op op_pow pe_int pe_int) (nomark _))
        (pss_one (ps_for PassesOwn.never rfl (pi_range1 rfl T.range (pa_cons pe_int pa_nil)) (pg_name (i := 4) scDeck.nd rfl (Or.inl rfl)) <|
          pss_one (ps_if (pt_cmpR op_gt (pv 3) pe_int (nomark _)) (pss_cons (ps_expr (pe_bm PySem.F.plainAttrs_list PySem.F.slot_list_append PySem.F.type_list_append mt_append (pv 1) (pa_cons (pe_op op_mod (pv 3) pe_int) pa_nil))) <|
            pss_one (ps_set (i := 3) scDeck.nd rfl (Or.inl rfl) (pe_op op_fdiv (pv 3) pe_int))) pss_nil)))
        (pss_cons (ps_set (i := 5) scDeck.nd rfl (Or.inl rfl) (pe_op op_add (pe_op op_add (pe_op op_mul (pv 3) pe_int) (pe_op op_mul (pe_op op_mul (pe_op op_add (pv 2) pe_int) (pe_op op_add (pv 2) pe_int)) pe_int)) pe_int)) <|
          pss_cons (ps_set (i := 5) scDeck.nd rfl (Or.inl rfl) (pe_op op_mod (pv 5) pe_int)) <|
          pss_one (ps_expr (pe_bm PySem.F.plainAttrs_list PySem.F.slot_list_append PySem.F.type_list_append mt_append (pv 1) (pa_cons (pe_op op_mod (pe_op op_mul (pv 5) (pv 5)) pe_int) pa_nil)))))) <|
    pss_one (ps_ret (pe_lst (pa_cons pe_int (pa_cons (pv 1) (pa_cons pe_int pa_nil))))), ?_⟩
  refine ⟨Nat.zero_le _, fun l hl => ?_⟩
  have s0 := same_new hl (.lst [])
  have hlen : (ns.map V.int).length = ns.length := List.length_map _
  refine ⟨_, rfl, a, _, rfl, .inl (s0.seq hS), _, _, rfl, ?_⟩
  have hmin : (if (63 : Int) < ((ns.map V.int).length : Nat) then (63 : Int) else ((ns.map V.int).length : Nat)) = ((ns.length : Nat) : Int) := by
    rw [hlen, if_neg (by omega)]
  rw [hmin]
  refine ⟨_, rfl, by omega, by omega, ?_⟩
  refine for_range (lo := 0) (n := ((ns.length : Nat) : Int).toNat) (fun i σ H1 => ∃ (xs : List Int) (v2 v3 v4 v5 : Option V), σ = [some (.ref a), some (.ref l), v2, v3, v4, v5] ∧ Same H H1 ∧ H1 l = some (.lst (xs.map V.int)) ∧ Small xs ∧ xs.length ≤ 60 * i)
    ⟨[], none, none, none, none, rfl, s0, upd_same, fun v h => by simp at h, by simp⟩ ?_ ?_
  · rintro i σ H1 hi ⟨xs, v2, v3, v4, v5, rfl, s1, h1, hsm, hxl⟩
    have hi2 : i < ns.length := by simpa using hi
    have e0 : (0 : Int) + ((i : Nat) : Int) = ((i : Nat) : Int) := by omega
    rw [e0]
    have hcell : (ns.map V.int)[i]? = some (.int ns[i]) := by rw [List.getElem?_map, List.getElem?_eq_getElem hi2]; rfl
    generalize ns[i] = cell at hcell
    have app : ∀ (H2 : Hp) (ys : List Int) (z : Int), Same H H2 → Same H (upd H2 l (.lst ((ys ++ [z]).map V.int))) := fun H2 ys z s b u e => by
      rw [upd_ne (ne_of_none e hl)]
      exact s b u e
    have sml : ∀ (ys : List Int) (z : Int), Small ys → 0 ≤ z → z < 2147483648 → Small (ys ++ [z]) := fun ys z h h1 h2 v hv => by
      rcases List.mem_append.mp hv with hv | hv
      · exact h v hv
      · simp at hv
        subst hv
        exact ⟨h1, h2⟩
    refine ⟨_, rfl, _, rfl, a, _, _, _, rfl, rfl, s1.seq hS, atI_nat hcell, ?_⟩
    refine ⟨_, rfl, _, _, rfl, rfl, ⟨by decide, by decide, by decide⟩, _, _, rfl, rfl, _, rfl, ?_⟩
    refine ite2 (fun c => ?_) (fun c => ?_)
    · refine ⟨60, rfl, by decide, by decide, ?_⟩
      refine for_range (lo := 0) (n := (60 : Int).toNat) (fun j σ H2 => ∃ (ys : List Int) (cl : Int) (v4 : Option V), σ = [some (.ref a), some (.ref l), some (.int (i : Nat)), some (.int cl), v4, v5] ∧ Same H H2 ∧ H2 l = some (.lst (ys.map V.int)) ∧ Small ys ∧ ys.length ≤ 60 * i + j)
        ⟨xs, cell, v4, rfl, s1, h1, hsm, by omega⟩ ?_ ?_
      · rintro j σ H2 hj ⟨ys, cl, v4', rfl, s2, h2, hs2, hyl⟩
        refine ⟨_, rfl, _, _, rfl, rfl, _, rfl, ?_⟩
        refine ite2 (fun c2 => ?_) (fun c2 => ?_)
        · have hlt : ys.length < sizeLine := by
            rw [sizeLine_eq]
            have : j < 60 := by simpa using hj
            omega
          refine ⟨_, rfl, .inl ⟨rfl, _, SqL.of h2⟩, _, rfl, _, _, rfl, rfl, (by show (0 : Int) < 1000000; decide), l, _, _, rfl, rfl, h2, by rw [List.length_map]; exact hlt, ?_⟩
          refine ⟨_, rfl, _, _, rfl, rfl, ⟨by decide, by decide⟩, ?_⟩
          refine ⟨ys ++ [cl % 1000000], _, _, rfl, ?_, by rw [upd_same, List.map_append]; rfl, sml _ _ hs2 (Int.emod_nonneg _ (by decide)) (by have := Int.emod_lt_of_pos cl (show (0 : Int) < 1000000 by decide); omega), by rw [List.length_append]; simp only [List.length_cons, List.length_nil]; omega⟩
          have := app H2 ys (cl % 1000000) s2
          rw [List.map_append] at this
          exact this
        · exact ⟨ys, cl, _, rfl, s2, h2, hs2, by omega⟩
      · rintro σ H2 ⟨ys, cl, v4', rfl, s2, h2, hs2, hyl⟩
        exact ⟨ys, _, _, _, _, rfl, s2, h2, hs2, by have : (60 : Int).toNat = 60 := rfl; omega⟩
    · have i64 : ((i : Nat) : Int) < 64 := by omega
      refine ⟨_, rfl, _, _, rfl, rfl, .inr ⟨by decide, by decide⟩, _, rfl, _, _, rfl, rfl, _, rfl, _, _, rfl, rfl, _, _, rfl, rfl, .inl ⟨by omega, by omega⟩, _, _, rfl, rfl, .inr ⟨by decide, by decide⟩, _, _, rfl, rfl, _, _, rfl, rfl, ?_⟩
      refine ⟨_, rfl, _, _, rfl, rfl, (by show (0 : Int) < 2147483647; decide), ?_⟩
      obtain ⟨one, hone⟩ : ∃ one : Int, one = (cell * 48271 + (((i : Nat) : Int) + 1) * (((i : Nat) : Int) + 1) * 7919 + 11) % 2147483647 := ⟨_, rfl⟩
      have o0 : 0 ≤ one := by rw [hone]; exact Int.emod_nonneg _ (by decide)
      have o1 : one < 2147483647 := by rw [hone]; exact Int.emod_lt_of_pos _ (by decide)
      show gName 5 (V.int ((cell * 48271 + (((i : Nat) : Int) + 1) * (((i : Nat) : Int) + 1) * 7919 + 11) % 2147483647)) _ _ _
      rw [← hone]
      refine ⟨_, rfl, .inl ⟨rfl, _, SqL.of h1⟩, _, rfl, _, rfl, _, _, rfl, rfl, .inl ⟨by omega, by omega⟩, _, _, rfl, rfl, (by show (0 : Int) < 2147483629; decide), l, _, _, rfl, rfl, h1, by rw [List.length_map, sizeLine_eq]; omega, ?_⟩
      refine ⟨xs ++ [one * one % 2147483629], _, _, _, _, rfl, ?_, by rw [upd_same, List.map_append]; rfl, sml _ _ hsm (Int.emod_nonneg _ (by decide)) (by have := Int.emod_lt_of_pos (one * one) (show (0 : Int) < 2147483629 by decide); omega), by rw [List.length_append]; simp only [List.length_cons, List.length_nil]; omega⟩
      have := app H1 xs (one * one % 2147483629) s1
      rw [List.map_append] at this
      exact this
  · rintro σ H1 ⟨xs, v2, v3, v4, v5, rfl, s1, h1, hsm, hxl⟩
    have hn : ((ns.length : Nat) : Int).toNat = ns.length := by omega
    rw [hn] at hxl
    refine ⟨_, rfl, by show 3 ≤ sizeLine; decide, fun p hp => ?_⟩
    have hpl : p ≠ l := fun z => by rw [z, h1] at hp; cases hp
    exact k _ p l xs (s1.trans (same_new hp _)) (s1.free hp) hl ⟨upd_same, by rw [upd_ne hpl.symm]; exact h1, hpl, hsm, by omega⟩
/-! _law_next -/
def spNext : Sp := fun vs H Q _ => ∃ (p l : Addr) (a : Nat) (b : Int) (xs : List Int), vs = [.ref p] ∧ DeckAt H p l a b xs ∧ a ≤ 10000 ∧ ∀ (n : Int), 0 ≤ n → DeckAt (upd H p (.lst [.int ((a + 1 : Nat) : Int), .ref l, .int b])) p l (a + 1) b xs → Q (.int n) (upd H p (.lst [.int ((a + 1 : Nat) : Int), .ref l, .int b]))
theorem scNext : FnScope ["_law_deck_here", "_law_at", "_law_row", "_law_one"] ["_law_deck_here"] (defScope sNext) := ⟨rfl, rfl, rfl, by decide +kernel, rfl, by decide +kernel, by decide +kernel⟩
theorem c_next (TS : TxS K mg) (D : Dn K mg "_law_next" sNext) : C0 P w K mg base 1 "_law_next" spNext := by
  obtain ⟨f, fd, F, m⟩ := D.ex
  refine ⟨f, fd, ["_law_deck_here"], F.ok scNext (fun vs H Q E h => ?_) (fun cdv A outer s H vs Q E hr h => ?_), m, F.kp, F.binds (ps := ["_law_deck_here"]) fun _ _ _ _ _ _ us hl => match us, hl with | [_], _ => rfl⟩
  · obtain ⟨p, l, a, b, xs, rfl, _⟩ := h
    rfl
  obtain ⟨p, l, a, b, xs, rfl, ⟨h1, h2, hpl, hsm, hxl⟩, ha, k⟩ := h
  refine ⟨_, pss_cons (ps_set (i := 1) scNext.nd rfl (Or.inl rfl) (pe_ix ix_list (pv 0) pe_int (fun _ _ => rfl))) <|
    pss_cons (ps_asg (pe_op op_add (pv 1) pe_int) (pg_sub (pv 0) pe_int set_list)) <|
    pss_cons (ps_set (i := 2) scNext.nd rfl (Or.inl rfl) (pe_ix ix_list (pv 0) pe_int (fun _ _ => rfl))) <|
    pss_cons (ps_if (pt_cmpR op_lt (pv 1) (pe_callB call_len_seq (by rfl) TS.len PySem.boot_len (pa_cons (pv 2) pa_nil)) (nomark _)) (pss_one (ps_ret (pe_ix ix_list (pv 2) (pv 1) (fun _ _ => rfl)))) pss_nil) <|
    pss_cons (ps_if (pt_cmpR op_eq (pe_callB call_len_seq (by rfl) TS.len PySem.boot_len (pa_cons (pv 2) pa_nil)) pe_int (nomark _)) (pss_one (ps_ret (pe_op op_mod (pe_op op_mul (pe_op op_mul (pe_op op_mul (pe_op op_add (pv 1) pe_int) (pe_op op_add (pv 1) pe_int)) (pe_op op_add (pv 1) pe_int)) pe_int) pe_int))) pss_nil) <|
    pss_cons (ps_set (i := 3) scNext.nd rfl (Or.inl rfl) (pe_op op_add (pe_ix ix_list (pv 2) (pe_op op_mod (pv 1) (pe_callB call_len_seq (by rfl) TS.len PySem.boot_len (pa_cons (pv 2) pa_nil))) (fun _ _ => rfl)) (pe_op op_mul pe_int (pe_ix ix_list (pv 2) (pe_op op_mod (pe_op op_mul (pv 1) pe_int) (pe_callB call_len_seq (by rfl) TS.len PySem.boot_len (pa_cons (pv 2) pa_nil))) (fun _ _ => rfl))))) <|
    pss_cons (ps_set (i := 3) scNext.nd rfl (Or.inl rfl) (pe_op op_add (pe_op op_add (pv 3) (pe_op op_mul (pe_op op_mul (pv 1) (pv 1)) pe_int)) pe_int)) <|
    pss_one (ps_ret (pe_op op_mod (pe_op op_mul (pv 3) (pv 3)) pe_int)), ?_⟩
  have hat0 : atI [V.int (a : Nat), .ref l, .int b] 0 = some (.int (a : Nat)) := atI_0
  have ec : ((a : Nat) : Int) + 1 = ((a + 1 : Nat) : Int) := by omega
  refine ⟨_, rfl, p, _, _, _, rfl, rfl, SqL.of h1, hat0, ?_⟩
  refine ⟨_, rfl, _, _, rfl, rfl, _, rfl, p, _, 0, 0, rfl, rfl, h1, rfl, ?_⟩
  have eset : ([V.int (a : Nat), .ref l, .int b] : List V).set 0 (.int (((a : Nat) : Int) + 1)) = [.int ((a + 1 : Nat) : Int), .ref l, .int b] := by
    rw [ec]
    rfl
  show tSeq _ _ _ _ (upd H p (.lst (([V.int (a : Nat), .ref l, .int b] : List V).set 0 (.int (((a : Nat) : Int) + 1)))))
  rw [eset]
  have dk : DeckAt (upd H p (.lst [.int ((a + 1 : Nat) : Int), .ref l, .int b])) p l (a + 1) b xs := ⟨upd_same, by rw [upd_ne hpl.symm]; exact h2, hpl, hsm, hxl⟩
  have kk : ∀ n : Int, 0 ≤ n → Q (.int n) (upd H p (.lst [.int ((a + 1 : Nat) : Int), .ref l, .int b])) := fun n hn => k n hn dk
  have hl2 := dk.2.1
  generalize upd H p (.lst [.int ((a + 1 : Nat) : Int), .ref l, .int b]) = H1 at dk kk hl2 ⊢
  have hat1 : atI [V.int ((a + 1 : Nat) : Int), .ref l, .int b] 1 = some (.ref l) := atI_nat (j := 1) rfl
  refine ⟨_, rfl, p, _, _, _, rfl, rfl, SqL.of dk.1, hat1, ?_⟩
  have hlen : (xs.map V.int).length = xs.length := List.length_map _
  have get : ∀ j : Nat, j < xs.length → ∃ z : Int, atI (xs.map V.int) ((j : Nat) : Int) = some (.int z) ∧ 0 ≤ z ∧ z < 2147483648 := fun j hj => by
    refine ⟨xs[j], atI_nat (by rw [List.getElem?_map, List.getElem?_eq_getElem hj]; rfl), hsm _ (List.getElem_mem hj)⟩
  refine ⟨_, rfl, _, rfl, l, _, rfl, .inl (SqL.of hl2), _, _, rfl, rfl, _, rfl, ?_⟩
  rw [hlen]
  refine ite2 (fun c => ?_) (fun c => ?_)
  · have c1 := of_decide_eq_true c
    obtain ⟨z, hz, z0, _⟩ := get a (by omega)
    exact ⟨_, rfl, _, rfl, l, _, _, _, rfl, rfl, SqL.of hl2, hz, kk z z0⟩
  refine ⟨_, rfl, l, _, rfl, .inl (SqL.of hl2), rfl, _, rfl, ?_⟩
  rw [hlen]
  have ha2 : ((a : Nat) : Int) ≤ 10000 := by omega
  have ha0 : 0 ≤ ((a : Nat) : Int) := by omega
  refine ite2 (fun c2 => ?_) (fun c2 => ?_)
  · refine ⟨_, rfl, _, _, rfl, rfl, _, rfl, _, _, rfl, rfl, _, _, rfl, rfl, .inl ⟨by omega, by omega⟩, _, rfl, _, _, rfl, rfl, _, _, rfl, rfl, .inr ⟨by omega, by omega⟩, _, _, rfl, rfl, .inr ⟨by decide, by decide⟩, _, _, rfl, rfl, (by show (0 : Int) < 2147483629; decide), ?_⟩
    exact kk _ (Int.emod_nonneg _ (by decide))
  · have c3 := of_decide_eq_false (Bool.eq_false_iff.mpr c2)
    have hx : 0 < xs.length := by
      rcases Nat.eq_zero_or_pos xs.length with h | h
      · exact absurd (by rw [h]; rfl) c3
      · exact h
    have hx' : (0 : Int) < ((xs.length : Nat) : Int) := by omega
    have md : ∀ y : Int, ∃ j : Nat, y % ((xs.length : Nat) : Int) = ((j : Nat) : Int) ∧ j < xs.length := fun y => by
      have h1 := Int.emod_nonneg y (show ((xs.length : Nat) : Int) ≠ 0 by omega)
      have h2 := Int.emod_lt_of_pos y hx'
      exact ⟨(y % ((xs.length : Nat) : Int)).toNat, by omega, by omega⟩
    obtain ⟨j1, e1, hj1⟩ := md ((a : Nat) : Int)
    obtain ⟨j2, e2, hj2⟩ := md (((a : Nat) : Int) * 5)
    obtain ⟨z1, hz1, z10, z11⟩ := get j1 hj1
    obtain ⟨z2, hz2, z20, z21⟩ := get j2 hj2
    refine ⟨_, rfl, _, rfl, _, rfl, l, _, rfl, .inl (SqL.of hl2), _, _, rfl, rfl, by rw [hlen]; exact hx', l, _, _, _, rfl, rfl, SqL.of hl2, by rw [hlen, e1]; exact hz1, ?_⟩
    refine ⟨_, rfl, _, rfl, _, _, rfl, rfl, .inl ⟨by omega, by omega⟩, _, rfl, l, _, rfl, .inl (SqL.of hl2), _, _, rfl, rfl, by rw [hlen]; exact hx', l, _, _, _, rfl, rfl, SqL.of hl2, by rw [hlen, e2]; exact hz2, ?_⟩
    refine ⟨_, _, rfl, rfl, .inl ⟨by decide, by decide⟩, _, _, rfl, rfl, ?_⟩
    refine ⟨_, rfl, _, rfl, _, rfl, _, _, rfl, rfl, .inl ⟨by omega, by omega⟩, _, _, rfl, rfl, .inr ⟨by decide, by decide⟩, _, _, rfl, rfl, _, _, rfl, rfl, ?_⟩
    have haa : ((a : Nat) : Int) * ((a : Nat) : Int) ≤ 100000000 := by
      have : ((a : Nat) : Int) * ((a : Nat) : Int) ≤ 10000 * 10000 := Int.mul_le_mul ha2 ha2 ha0 (by decide)
      omega
    have haa0 : 0 ≤ ((a : Nat) : Int) * ((a : Nat) : Int) := Int.mul_nonneg ha0 ha0
    obtain ⟨y, hy⟩ : ∃ y : Int, y = z1 + 7 * z2 + ((a : Nat) : Int) * ((a : Nat) : Int) * 40503 + 1 := ⟨_, rfl⟩
    show gName 3 (V.int (z1 + 7 * z2 + ((a : Nat) : Int) * ((a : Nat) : Int) * 40503 + 1)) _ _ _
    rw [← hy]
    refine ⟨_, rfl, _, rfl, _, _, rfl, rfl, .inl ⟨by omega, by omega⟩, _, _, rfl, rfl, (by show (0 : Int) < 2147483629; decide), ?_⟩
    exact kk _ (Int.emod_nonneg _ (by decide))
end
end My
set_option Elab.async false
set_option linter.all false
set_option maxRecDepth 100000
set_option maxHeartbeats 2000000
namespace My
open PySem L2 SS
/-! ### trees of es and statements -/
mutual
inductive Ex : Type
  | num (n : Int) : Ex
  | txt (s : List Nat) : Ex
  | tru (b : Bool) : Ex
  | non : Ex
  | slf : Ex
  | nam (w : List Nat) : Ex
  | fld (w : List Nat) : Ex
  | new (w : List Nat) : Ex
  | send (r : Ex) (m : List Nat) (es : Exs) : Ex
  | up (m : List Nat) (es : Exs) : Ex
  | lst (es : Exs) : Ex
  | blk (ps : List (List Nat)) (ss : Sts) : Ex
inductive Exs : Type
  | nil : Exs
  | cons (e : Ex) (r : Exs) : Exs
inductive St_ : Type
  | set (w : List Nat) (e : Ex) : St_
  | sfl (w : List Nat) (e : Ex) : St_
  | pl (k : List Nat) (e : Ex) : St_
  | iff (e : Ex) (a b : Sts) : St_
  | whl (e : Ex) (a : Sts) : St_
  | tri (a : Sts) (w : List Nat) (b : Sts) : St_
inductive Sts : Type
  | nil : Sts
  | cons (s : St_) (r : Sts) : Sts
end
def wsV (ws : List T) : List V := ws.map fun w => V.str (mk w)
/-- a tuple of texts -/
def AtW (H : Hp) (ws : List T) (v : V) : Prop := ∃ p, v = .ref p ∧ H p = some (.tup (wsV ws))
abbrev S_ (s : String) : V := V.str (Str.ofString s)
mutual
def AtE (H : Hp) : Ex → V → Prop
  | .num n, v => ∃ p, v = .ref p ∧ H p = some (.tup [S_ "number", .int n])
  | .txt s, v => ∃ p, v = .ref p ∧ H p = some (.tup [S_ "text", .str (mk s)])
  | .tru b, v => ∃ p, v = .ref p ∧ H p = some (.tup [S_ "truth", .bl b])
  | .non, v => ∃ p, v = .ref p ∧ H p = some (.tup [S_ "none"])
  | .slf, v => ∃ p, v = .ref p ∧ H p = some (.tup [S_ "self"])
  | .nam w, v => ∃ p, v = .ref p ∧ H p = some (.tup [S_ "name", .str (mk w)])
  | .fld w, v => ∃ p, v = .ref p ∧ H p = some (.tup [S_ "field", .str (mk w)])
  | .new w, v => ∃ p, v = .ref p ∧ H p = some (.tup [S_ "new", .str (mk w)])
  | .send r m es, v => ∃ p vr q xs, v = .ref p ∧ H p = some (.tup [S_ "send", vr, .str (mk m), .ref q]) ∧ H q = some (.tup xs) ∧ AtE H r vr ∧ AtEs H es xs
  | .up m es, v => ∃ p q xs, v = .ref p ∧ H p = some (.tup [S_ "up", .str (mk m), .ref q]) ∧ H q = some (.tup xs) ∧ AtEs H es xs
  | .lst es, v => ∃ p q xs, v = .ref p ∧ H p = some (.tup [S_ "list", .ref q]) ∧ H q = some (.tup xs) ∧ AtEs H es xs
  | .blk ps ss, v => ∃ p vw q xs, v = .ref p ∧ H p = some (.tup [S_ "block", vw, .ref q]) ∧ H q = some (.tup xs) ∧ AtW H ps vw ∧ AtSs H ss xs
def AtEs (H : Hp) : Exs → List V → Prop
  | .nil, xs => xs = []
  | .cons e r, xs => ∃ v vs, xs = v :: vs ∧ AtE H e v ∧ AtEs H r vs
def AtS (H : Hp) : St_ → V → Prop
  | .set w e, v => ∃ p ve, v = .ref p ∧ H p = some (.tup [S_ "set", .str (mk w), ve]) ∧ AtE H e ve
  | .sfl w e, v => ∃ p ve, v = .ref p ∧ H p = some (.tup [S_ "setfield", .str (mk w), ve]) ∧ AtE H e ve
  | .pl k e, v => ∃ p ve, v = .ref p ∧ H p = some (.tup [.str (mk k), ve]) ∧ AtE H e ve
  | .iff e a b, v => ∃ p ve q xs r ys, v = .ref p ∧ H p = some (.tup [S_ "if", ve, .ref q, .ref r]) ∧ H q = some (.tup xs) ∧ H r = some (.tup ys) ∧ AtE H e ve ∧ AtSs H a xs ∧ AtSs H b ys
  | .whl e a, v => ∃ p ve q xs, v = .ref p ∧ H p = some (.tup [S_ "while", ve, .ref q]) ∧ H q = some (.tup xs) ∧ AtE H e ve ∧ AtSs H a xs
  | .tri a w b, v => ∃ p q xs r ys, v = .ref p ∧ H p = some (.tup [S_ "try", .ref q, .str (mk w), .ref r]) ∧ H q = some (.tup xs) ∧ H r = some (.tup ys) ∧ AtSs H a xs ∧ AtSs H b ys
def AtSs (H : Hp) : Sts → List V → Prop
  | .nil, xs => xs = []
  | .cons s r, xs => ∃ v vs, xs = v :: vs ∧ AtS H s v ∧ AtSs H r vs
end
theorem AtW.on {H H' : Hp} {ws : List T} {v : V} (t : Tups H H') (h : AtW H ws v) : AtW H' ws v := by
  obtain ⟨p, e, h⟩ := h
  exact ⟨p, e, t _ _ h⟩
mutual
theorem AtE.on {H H' : Hp} (t : Tups H H') : ∀ (e : Ex) (v : V), AtE H e v → AtE H' e v
  | .num n, v, ⟨p, e, h⟩ => ⟨p, e, t _ _ h⟩
  | .txt s, v, ⟨p, e, h⟩ => ⟨p, e, t _ _ h⟩
  | .tru b, v, ⟨p, e, h⟩ => ⟨p, e, t _ _ h⟩
  | .non, v, ⟨p, e, h⟩ => ⟨p, e, t _ _ h⟩
  | .slf, v, ⟨p, e, h⟩ => ⟨p, e, t _ _ h⟩
  | .nam w, v, ⟨p, e, h⟩ => ⟨p, e, t _ _ h⟩
  | .fld w, v, ⟨p, e, h⟩ => ⟨p, e, t _ _ h⟩
  | .new w, v, ⟨p, e, h⟩ => ⟨p, e, t _ _ h⟩
  | .send r m es, v, ⟨p, vr, q, xs, e, h1, h2, h3, h4⟩ => ⟨p, vr, q, xs, e, t _ _ h1, t _ _ h2, AtE.on t r vr h3, AtEs.on t es xs h4⟩
  | .up m es, v, ⟨p, q, xs, e, h1, h2, h4⟩ => ⟨p, q, xs, e, t _ _ h1, t _ _ h2, AtEs.on t es xs h4⟩
  | .lst es, v, ⟨p, q, xs, e, h1, h2, h4⟩ => ⟨p, q, xs, e, t _ _ h1, t _ _ h2, AtEs.on t es xs h4⟩
  | .blk ps ss, v, ⟨p, vw, q, xs, e, h1, h2, h3, h4⟩ => ⟨p, vw, q, xs, e, t _ _ h1, t _ _ h2, h3.on t, AtSs.on t ss xs h4⟩
theorem AtEs.on {H H' : Hp} (t : Tups H H') : ∀ (e : Exs) (v : List V), AtEs H e v → AtEs H' e v
  | .nil, xs, h => h
  | .cons e r, xs, ⟨v, vs, h1, h2, h3⟩ => ⟨v, vs, h1, AtE.on t e v h2, AtEs.on t r vs h3⟩
theorem AtS.on {H H' : Hp} (t : Tups H H') : ∀ (s : St_) (v : V), AtS H s v → AtS H' s v
  | .set w e, v, ⟨p, ve, h1, h2, h3⟩ => ⟨p, ve, h1, t _ _ h2, AtE.on t e ve h3⟩
  | .sfl w e, v, ⟨p, ve, h1, h2, h3⟩ => ⟨p, ve, h1, t _ _ h2, AtE.on t e ve h3⟩
  | .pl w e, v, ⟨p, ve, h1, h2, h3⟩ => ⟨p, ve, h1, t _ _ h2, AtE.on t e ve h3⟩
  | .iff e a b, v, ⟨p, ve, q, xs, r, ys, h1, h2, h3, h4, h5, h6, h7⟩ => ⟨p, ve, q, xs, r, ys, h1, t _ _ h2, t _ _ h3, t _ _ h4, AtE.on t e ve h5, AtSs.on t a xs h6, AtSs.on t b ys h7⟩
  | .whl e a, v, ⟨p, ve, q, xs, h1, h2, h3, h5, h6⟩ => ⟨p, ve, q, xs, h1, t _ _ h2, t _ _ h3, AtE.on t e ve h5, AtSs.on t a xs h6⟩
  | .tri a w b, v, ⟨p, q, xs, r, ys, h1, h2, h3, h4, h6, h7⟩ => ⟨p, q, xs, r, ys, h1, t _ _ h2, t _ _ h3, t _ _ h4, AtSs.on t a xs h6, AtSs.on t b ys h7⟩
theorem AtSs.on {H H' : Hp} (t : Tups H H') : ∀ (e : Sts) (v : List V), AtSs H e v → AtSs H' e v
  | .nil, xs, h => h
  | .cons e r, xs, ⟨v, vs, h1, h2, h3⟩ => ⟨v, vs, h1, AtS.on t e v h2, AtSs.on t r vs h3⟩
end
end My
set_option Elab.async false
set_option linter.all false
set_option maxRecDepth 100000
set_option maxHeartbeats 2000000
namespace My
open PySem L2 SS
/-! ### words, measures, what a tree can be -/
abbrev kSay : T := tl "say"
abbrev tk (s : String) : T := tl (Str.ofString s)
def numT (n : Int) : T := tl (numStr n)
abbrev WB := List Nat × Bool
def plainW (ws : List T) : List WB := ws.map fun w => (w, false)
mutual
def wE : Ex → List WB
  | .num n => [(numT n, true)]
  | .txt s => [(39 :: s, true)]
  | .tru true => [(tk "true", true)]
  | .tru false => [(tk "false", true)]
  | .non => [(tk "none", true)]
  | .slf => [(tk "self", true)]
  | .nam w => [(w, true)]
  | .fld w => [(64 :: w, true)]
  | .new w => [(tk "new", true), (w, false)]
  | .send r m es => (tk "(", true) :: (wE r ++ (m, false) :: (wEs es ++ [(tk ")", false)]))
  | .up m es => (tk "(", true) :: (tk "up", false) :: (m, false) :: (wEs es ++ [(tk ")", false)])
  | .lst es => (tk "[", true) :: (wEs es ++ [(tk "]", false)])
  | .blk ps ss => (tk "{", true) :: (plainW ps ++ (tk "|", false) :: (wSs ss ++ [(tk "}", false)]))
def wEs : Exs → List WB
  | .nil => []
  | .cons e r => wE e ++ wEs r
def wS : St_ → List WB
  | .set w e => (w, true) :: (tk ":=", false) :: wE e
  | .sfl w e => (64 :: w, true) :: (tk ":=", false) :: wE e
  | .pl k e => (k, true) :: wE e
  | .iff e a b => (tk "if", true) :: (wE e ++ (tk "then", false) :: (wSs a ++ (tk "else", false) :: (wSs b ++ [(tk "end", false)])))
  | .whl e a => (tk "while", true) :: (wE e ++ (tk "then", false) :: (wSs a ++ [(tk "end", false)]))
  | .tri a w b => (tk "try", true) :: (wSs a ++ (tk "taken", false) :: (w, false) :: (wSs b ++ [(tk "end", false)]))
def wSs : Sts → List WB
  | .nil => []
  | .cons s r => wS s ++ wSs r
end
mutual
/-- how many are open within one another -/
def oE : Ex → Nat
  | .send r _ es => 1 + max (oE r) (oEs es)
  | .up _ es => 1 + oEs es
  | .lst es => 1 + oEs es
  | .blk _ ss => 1 + oSs ss
  | _ => 0
def oEs : Exs → Nat
  | .nil => 0
  | .cons e r => max (oE e) (oEs r)
def oS : St_ → Nat
  | .set _ e => oE e
  | .sfl _ e => oE e
  | .pl _ e => oE e
  | .iff e a b => 1 + max (oE e) (max (oSs a) (oSs b))
  | .whl e a => 1 + max (oE e) (oSs a)
  | .tri a _ b => 1 + max (oSs a) (oSs b)
def oSs : Sts → Nat
  | .nil => 0
  | .cons s r => max (oS s) (oSs r)
end
mutual
/-- how many nodes -/
def nE : Ex → Nat
  | .send r _ es => 1 + nE r + nEs es
  | .up _ es => 1 + nEs es
  | .lst es => 1 + nEs es
  | .blk _ ss => 1 + nSs ss
  | _ => 1
def nEs : Exs → Nat
  | .nil => 0
  | .cons e r => nE e + nEs r
def nS : St_ → Nat
  | .set _ e => 1 + nE e
  | .sfl _ e => 1 + nE e
  | .pl _ e => 1 + nE e
  | .iff e a b => 1 + nE e + nSs a + nSs b
  | .whl e a => 1 + nE e + nSs a
  | .tri a _ b => 1 + nSs a + nSs b
def nSs : Sts → Nat
  | .nil => 0
  | .cons s r => nS s + nSs r
end
def cE : Exs → Nat
  | .nil => 0
  | .cons _ r => 1 + cE r
def cS : Sts → Nat
  | .nil => 0
  | .cons _ r => 1 + cS r
def isMsg (w : T) : Bool := isFree w || inS [mk [43], mk [45], mk [42], mk [47], mk [60], mk [61]] w
def isPl (w : T) : Bool := inS ["do", "say", "return", "raise"] w
mutual
def okE : Ex → Prop
  | .num n => -1000000000000 < n ∧ n < 1000000000000
  | .txt s => isText s = true
  | .nam w => isFree w = true
  | .fld w => isFree w = true
  | .new w => isKindName w = true
  | .send r m es => isMsg m = true ∧ okE r ∧ okEs es
  | .up m es => isFree m = true ∧ okEs es
  | .lst es => okEs es
  | .blk ps ss => ps.length ≤ 2 ∧ (∀ w ∈ ps, isFree w = true) ∧ okSs ss
  | _ => True
def okEs : Exs → Prop
  | .nil => True
  | .cons e r => okE e ∧ okEs r
def okS : St_ → Prop
  | .set w e => isFree w = true ∧ okE e
  | .sfl w e => isFree w = true ∧ okE e
  | .pl k e => isPl k = true ∧ okE e
  | .iff e a b => okE e ∧ okSs a ∧ okSs b
  | .whl e a => okE e ∧ okSs a
  | .tri a w b => isFree w = true ∧ okSs a ∧ okSs b
def okSs : Sts → Prop
  | .nil => True
  | .cons s r => okS s ∧ okSs r
end
/-- what words weigh in a layout -/
def wt (ws : List WB) : Nat := (ws.map fun q => q.1.length + 3).sum
theorem wt_app (a b : List WB) : wt (a ++ b) = wt a + wt b := by unfold wt; rw [List.map_append, List.sum_append]
theorem wt_cons (q : WB) (b : List WB) : wt (q :: b) = q.1.length + 3 + wt b := by unfold wt; rw [List.map_cons, List.sum_cons]
theorem wt_nil : wt [] = 0 := rfl
theorem free_len {w : T} (h : isFree w = true) : w.length ≤ 12 := by
  unfold isFree isSmall isName at h
  simp only [Bool.and_eq_true, decide_eq_true_eq] at h
  exact h.1.1.1.2
theorem kind_len {w : T} (h : isKindName w = true) : w.length ≤ 12 := by
  unfold isKindName isName at h
  simp only [Bool.and_eq_true, decide_eq_true_eq] at h
  exact h.1.2
theorem text_len {w : T} (h : isText w = true) : w.length ≤ 40 := by
  unfold isText at h
  simp only [Bool.and_eq_true, decide_eq_true_eq] at h
  exact h.1
theorem inS_len {zs : List Str} {w : T} {n : Nat} (hz : ∀ z ∈ zs, z.length ≤ n) (h : inS zs w = true) : w.length ≤ n := by
  unfold inS at h
  obtain ⟨z, hz1, hz2⟩ := List.any_eq_true.mp h
  have e := eq_of_beq hz2
  have := hz z hz1
  rw [e, mk_len] at this
  exact this
theorem msg_len {w : T} (h : isMsg w = true) : w.length ≤ 12 := by
  unfold isMsg at h
  rcases Bool.or_eq_true_iff.mp h with h | h
  · exact free_len h
  · have := inS_len (n := 1) (by decide +kernel) h
    omega
theorem pl_len {w : T} (h : isPl w = true) : w.length ≤ 6 := inS_len (by decide +kernel) h
end My
set_option Elab.async false
set_option linter.all false
set_option maxRecDepth 100000
set_option maxHeartbeats 2000000
namespace My
open PySem L2 SS
theorem ofS_app (a b : String) : tl (Str.ofString (a ++ b)) = tl (Str.ofString a) ++ tl (Str.ofString b) := by
  rw [Str.ofString_eq_toList, Str.ofString_eq_toList, Str.ofString_eq_toList]
  show (((a ++ b).toList.map Char.toNat).toArray).toList = (a.toList.map Char.toNat).toArray.toList ++ (b.toList.map Char.toNat).toArray.toList
  simp
theorem numT_neg (m : Nat) : numT (Int.negSucc m) = 45 :: TL.numL (m + 1) := by
  have e2 : toString (Int.negSucc m) = "-" ++ toString (((m + 1 : Nat) : Nat) : Int) := rfl
  show tl (Str.ofString (toString (Int.negSucc m))) = _
  rw [e2, ofS_app]
  have e3 : tl (Str.ofString (toString ((m + 1 : Nat) : Int))) = TL.numL (m + 1) := TL.tl_num (m + 1)
  rw [e3]
  have e4 : tl (Str.ofString "-") = [45] := by decide +kernel
  rw [e4]
  rfl
theorem numT_pos (m : Nat) : numT ((m : Nat) : Int) = TL.numL m := TL.tl_num m
theorem numL_head {m : Nat} : ∃ c r, TL.numL m = c :: r ∧ 48 ≤ c ∧ c ≤ 57 := by
  cases e : TL.numL m with
  | nil => exact absurd e (TL.numL_ne m)
  | cons c r =>
    have := TL.numL_digits m c (by rw [e]; exact List.mem_cons_self)
    exact ⟨c, r, rfl, this.1, this.2⟩
/-- figures of a number are read back -/
theorem numT_back (n : Int) : numOf (numT n) = n ∧ NumText.AllDigits (figsOf (numT n)) ∧ figsOf (numT n) ≠ [] := by
  cases n with
  | ofNat m =>
    have e : numT (Int.ofNat m) = TL.numL m := TL.tl_num m
    obtain ⟨c, r, hc, h1, h2⟩ := numL_head (m := m)
    have hv := TL.numL_val m
    have hd := TL.numL_digits m
    rw [e]
    rw [hc] at hv hd ⊢
    have n45 : c ≠ 45 := by omega
    have ef : figsOf (c :: r) = c :: r := by
      unfold figsOf
      split
      · rename_i h; injection h with h; exact absurd h n45
      · rfl
    have eo : numOf (c :: r) = ((NumText.digitsVal (c :: r) : Nat) : Int) := by
      unfold numOf
      split
      · rename_i h; injection h with h; exact absurd h n45
      · rfl
    rw [ef, eo, hv]
    exact ⟨rfl, hd, by simp⟩
  | negSucc m =>
    rw [numT_neg]
    show -((NumText.digitsVal (TL.numL (m + 1)) : Nat) : Int) = _ ∧ NumText.AllDigits (TL.numL (m + 1)) ∧ TL.numL (m + 1) ≠ []
    rw [TL.numL_val]
    exact ⟨rfl, TL.numL_digits _, TL.numL_ne _⟩
theorem numT_len {n : Int} (h1 : -1000000000000 < n) (h2 : n < 1000000000000) : (numT n).length ≤ 13 := by
  cases n with
  | ofNat m =>
    have e : numT (Int.ofNat m) = TL.numL m := TL.tl_num m
    rw [e]
    have := TL.numL_len (n := m) (k := 12) (by decide) (by have : (Int.ofNat m) = (m : Int) := rfl; omega)
    omega
  | negSucc m =>
    have e := numT_neg m
    rw [e]
    have := TL.numL_len (n := m + 1) (k := 12) (by decide) (by omega)
    rw [List.length_cons]
    omega
theorem plainW_len (ps : List T) : (plainW ps).length = ps.length := List.length_map _
theorem plainW_wt : ∀ (ps : List T), (∀ w ∈ ps, isFree w = true) → wt (plainW ps) ≤ 15 * ps.length
  | [], _ => by simp [plainW, wt]
  | w :: ps, h => by
    have h1 := free_len (h w List.mem_cons_self)
    have h2 := plainW_wt ps fun x hx => h x (List.mem_cons_of_mem _ hx)
    show wt ((w, false) :: plainW ps) ≤ _
    rw [wt_cons, List.length_cons]
    show w.length + 3 + wt (plainW ps) ≤ _
    omega
theorem tkl : (tk "true").length = 4 ∧ (tk "false").length = 5 ∧ (tk "none").length = 4 ∧ (tk "self").length = 4 ∧ (tk "new").length = 3 ∧ (tk "(").length = 1 ∧ (tk ")").length = 1 ∧ (tk "up").length = 2 ∧ (tk "[").length = 1 ∧ (tk "]").length = 1 ∧ (tk "{").length = 1 ∧ (tk "}").length = 1 ∧ (tk "|").length = 1 ∧ (tk ":=").length = 2 ∧ (tk "if").length = 2 ∧ (tk "then").length = 4 ∧ (tk "else").length = 4 ∧ (tk "end").length = 3 ∧ (tk "while").length = 5 ∧ (tk "try").length = 3 ∧ (tk "taken").length = 5 := by decide +kernel
mutual
theorem wE_b : ∀ e : Ex, okE e → (wE e).length ≤ 5 * nE e ∧ wt (wE e) ≤ 44 * nE e
  | .num n, h => by
    have := numT_len h.1 h.2
    simp only [wE, nE, wt_cons, wt_nil, List.length_cons, List.length_nil]
    omega
  | .txt s, h => by
    have := text_len h
    simp only [wE, nE, wt_cons, wt_nil, List.length_cons, List.length_nil]
    omega
  | .tru true, h => by
    have := tkl
    simp only [wE, nE, wt_cons, wt_nil, List.length_cons, List.length_nil]
    omega
  | .tru false, h => by
    have := tkl
    simp only [wE, nE, wt_cons, wt_nil, List.length_cons, List.length_nil]
    omega
  | .non, h => by
    have := tkl
    simp only [wE, nE, wt_cons, wt_nil, List.length_cons, List.length_nil]
    omega
  | .slf, h => by
    have := tkl
    simp only [wE, nE, wt_cons, wt_nil, List.length_cons, List.length_nil]
    omega
  | .nam w, h => by
    have := free_len h
    simp only [wE, nE, wt_cons, wt_nil, List.length_cons, List.length_nil]
    omega
  | .fld w, h => by
    have := free_len h
    simp only [wE, nE, wt_cons, wt_nil, List.length_cons, List.length_nil]
    omega
  | .new w, h => by
    have := kind_len h
    have := tkl
    simp only [wE, nE, wt_cons, wt_nil, List.length_cons, List.length_nil]
    omega
  | .send r m es, h => by
    have h0 := msg_len h.1
    have h1 := wE_b r h.2.1
    have h2 := wEs_b es h.2.2
    have := tkl
    simp only [wE, nE, wt_cons, wt_app, wt_nil, List.length_cons, List.length_append, List.length_nil]
    omega
  | .up m es, h => by
    have h0 := free_len h.1
    have h2 := wEs_b es h.2
    have := tkl
    simp only [wE, nE, wt_cons, wt_app, wt_nil, List.length_cons, List.length_append, List.length_nil]
    omega
  | .lst es, h => by
    have h2 := wEs_b es h
    have := tkl
    simp only [wE, nE, wt_cons, wt_app, wt_nil, List.length_cons, List.length_append, List.length_nil]
    omega
  | .blk ps ss, h => by
    have h0 := h.1
    have h1 := plainW_wt ps h.2.1
    have h2 := wSs_b ss h.2.2
    have := tkl
    have := plainW_len ps
    simp only [wE, nE, wt_cons, wt_app, wt_nil, List.length_cons, List.length_append, List.length_nil]
    omega
theorem wEs_b : ∀ e : Exs, okEs e → (wEs e).length ≤ 5 * nEs e ∧ wt (wEs e) ≤ 44 * nEs e
  | .nil, _ => by simp [wEs, nEs, wt]
  | .cons e r, h => by
    have h1 := wE_b e h.1
    have h2 := wEs_b r h.2
    simp only [wEs, nEs, wt_app, List.length_append]
    omega
theorem wS_b : ∀ s : St_, okS s → (wS s).length ≤ 5 * nS s ∧ wt (wS s) ≤ 44 * nS s
  | .set w e, h => by
    have h0 := free_len h.1
    have h1 := wE_b e h.2
    have := tkl
    simp only [wS, nS, wt_cons, wt_app, wt_nil, List.length_cons, List.length_append, List.length_nil]
    omega
  | .sfl w e, h => by
    have h0 := free_len h.1
    have h1 := wE_b e h.2
    have := tkl
    simp only [wS, nS, wt_cons, wt_app, wt_nil, List.length_cons, List.length_append, List.length_nil]
    omega
  | .pl w e, h => by
    have h0 := pl_len h.1
    have h1 := wE_b e h.2
    have := tkl
    simp only [wS, nS, wt_cons, wt_app, wt_nil, List.length_cons, List.length_append, List.length_nil]
    omega
  | .iff e a b, h => by
    have h1 := wE_b e h.1
    have h2 := wSs_b a h.2.1
    have h3 := wSs_b b h.2.2
    have := tkl
    simp only [wS, nS, wt_cons, wt_app, wt_nil, List.length_cons, List.length_append, List.length_nil]
    omega
  | .whl e a, h => by
    have h1 := wE_b e h.1
    have h2 := wSs_b a h.2
    have := tkl
    simp only [wS, nS, wt_cons, wt_app, wt_nil, List.length_cons, List.length_append, List.length_nil]
    omega
  | .tri a w b, h => by
    have h1 := free_len h.1
    have h2 := wSs_b a h.2.1
    have h3 := wSs_b b h.2.2
    have := tkl
    simp only [wS, nS, wt_cons, wt_app, wt_nil, List.length_cons, List.length_append, List.length_nil]
    omega
theorem wSs_b : ∀ e : Sts, okSs e → (wSs e).length ≤ 5 * nSs e ∧ wt (wSs e) ≤ 44 * nSs e
  | .nil, _ => by simp [wSs, nSs, wt]
  | .cons e r, h => by
    have h1 := wS_b e h.1
    have h2 := wSs_b r h.2
    simp only [wSs, nSs, wt_app, List.length_append]
    omega
end
end My
set_option Elab.async false
set_option linter.all false
set_option maxRecDepth 100000
set_option maxHeartbeats 2000000
namespace My
open PySem L2 SS
def Exs.snoc : Exs → Ex → Exs
  | .nil, e => .cons e .nil
  | .cons x r, e => .cons x (r.snoc e)
def Sts.snoc : Sts → St_ → Sts
  | .nil, e => .cons e .nil
  | .cons x r, e => .cons x (r.snoc e)
theorem Exs.at_snoc {H : Hp} : ∀ {es : Exs} {vs : List V} {e : Ex} {v : V}, AtEs H es vs → AtE H e v → AtEs H (es.snoc e) (vs ++ [v])
  | .nil, vs, e, v, h, he => by
    have h' : vs = [] := h
    subst h'
    exact ⟨v, [], rfl, he, rfl⟩
  | .cons x r, vs, e, v, ⟨u, us, h1, h2, h3⟩, he => by
    subst h1
    exact ⟨u, us ++ [v], rfl, h2, Exs.at_snoc h3 he⟩
theorem Sts.at_snoc {H : Hp} : ∀ {es : Sts} {vs : List V} {e : St_} {v : V}, AtSs H es vs → AtS H e v → AtSs H (es.snoc e) (vs ++ [v])
  | .nil, vs, e, v, h, he => by
    have h' : vs = [] := h
    subst h'
    exact ⟨v, [], rfl, he, rfl⟩
  | .cons x r, vs, e, v, ⟨u, us, h1, h2, h3⟩, he => by
    subst h1
    exact ⟨u, us ++ [v], rfl, h2, Sts.at_snoc h3 he⟩
theorem Exs.snoc_n : ∀ (es : Exs) (e : Ex), nEs (es.snoc e) = nEs es + nE e ∧ oEs (es.snoc e) = max (oEs es) (oE e) ∧ (okEs (es.snoc e) ↔ okEs es ∧ okE e) ∧ cE (es.snoc e) = cE es + 1 ∧ wEs (es.snoc e) = wEs es ++ wE e
  | .nil, e => by simp [Exs.snoc, nEs, oEs, okEs, cE, wEs]
  | .cons x r, e => by
    obtain ⟨h1, h2, h3, h4, h5⟩ := Exs.snoc_n r e
    simp only [Exs.snoc, nEs, oEs, okEs, cE, wEs, h1, h2, h3, h4, h5]
    refine ⟨by omega, by omega, by rw [and_assoc], by omega, by rw [List.append_assoc]⟩
theorem Sts.snoc_n : ∀ (es : Sts) (e : St_), nSs (es.snoc e) = nSs es + nS e ∧ oSs (es.snoc e) = max (oSs es) (oS e) ∧ (okSs (es.snoc e) ↔ okSs es ∧ okS e) ∧ cS (es.snoc e) = cS es + 1 ∧ wSs (es.snoc e) = wSs es ++ wS e
  | .nil, e => by simp [Sts.snoc, nSs, oSs, okSs, cS, wSs]
  | .cons x r, e => by
    obtain ⟨h1, h2, h3, h4, h5⟩ := Sts.snoc_n r e
    simp only [Sts.snoc, nSs, oSs, okSs, cS, wSs, h1, h2, h3, h4, h5]
    refine ⟨by omega, by omega, by rw [and_assoc], by omega, by rw [List.append_assoc]⟩
theorem AtEs.len {H : Hp} : ∀ {es : Exs} {vs : List V}, AtEs H es vs → vs.length = cE es
  | .nil, vs, h => by
    have h' : vs = [] := h
    subst h'
    rfl
  | .cons x r, vs, ⟨u, us, h1, h2, h3⟩ => by
    subst h1
    rw [List.length_cons, AtEs.len h3, cE]
    omega
theorem AtSs.len {H : Hp} : ∀ {es : Sts} {vs : List V}, AtSs H es vs → vs.length = cS es
  | .nil, vs, h => by
    have h' : vs = [] := h
    subst h'
    rfl
  | .cons x r, vs, ⟨u, us, h1, h2, h3⟩ => by
    subst h1
    rw [List.length_cons, AtSs.len h3, cS]
    omega
theorem AtE.on_ {H H' : Hp} {e : Ex} {v : V} (h : AtE H e v) (t : Tups H H') : AtE H' e v := AtE.on t e v h
theorem AtEs.on_ {H H' : Hp} {e : Exs} {v : List V} (h : AtEs H e v) (t : Tups H H') : AtEs H' e v := AtEs.on t e v h
theorem AtS.on_ {H H' : Hp} {e : St_} {v : V} (h : AtS H e v) (t : Tups H H') : AtS H' e v := AtS.on t e v h
theorem AtSs.on_ {H H' : Hp} {e : Sts} {v : List V} (h : AtSs H e v) (t : Tups H H') : AtSs H' e v := AtSs.on t e v h
/-- all stands but what is at p -/
def SB (p : Addr) (H H' : Hp) : Prop := ∀ b u, b ≠ p → H b = some u → H' b = some u
theorem SB.refl {p : Addr} {H : Hp} : SB p H H := fun _ _ _ h => h
theorem SB.trans {p : Addr} {H H1 H2 : Hp} (a : SB p H H1) (b : SB p H1 H2) : SB p H H2 := fun q u n h => b q u n (a q u n h)
theorem SB.same {p : Addr} {H H' : Hp} (s : Same H H') : SB p H H' := fun q u _ h => s q u h
theorem SB.upd {p : Addr} {H : Hp} (o : HO) : SB p H (upd H p o) := fun q u n h => by rw [upd_ne n]; exact h
theorem SB.tups {p : Addr} {H H' : Hp} {xs : List V} (s : SB p H H') (h : H p = some (.lst xs)) : Tups H H' := fun q ys e => s q _ (fun z => by rw [z, h] at e; cases e) e
theorem DeckAt.same {H H' : Hp} {p l : Addr} {a : Nat} {b : Int} {xs : List Int} (h : DeckAt H p l a b xs) (s : Same H H') : DeckAt H' p l a b xs := ⟨s _ _ h.1, s _ _ h.2.1, h.2.2⟩
theorem DeckAt.new {H : Hp} {p l q : Addr} {a : Nat} {b : Int} {xs : List Int} (h : DeckAt H p l a b xs) (n : H q = none) (o : HO) : DeckAt (upd H q o) p l a b xs := h.same (same_new n o)
theorem DeckAt.ne {H : Hp} {p l q : Addr} {a : Nat} {b : Int} {xs : List Int} (h : DeckAt H p l a b xs) (n : H q = none) : q ≠ p ∧ q ≠ l := ⟨fun z => (by rw [z, h.1] at n; cases n), fun z => (by rw [z, h.2.1] at n; cases n)⟩
end My
set_option Elab.async false
set_option linter.all false
set_option maxRecDepth 100000
set_option maxHeartbeats 2000000
namespace My
open PySem L2 SS
abbrev sLWord : Stmt := top 11
abbrev sLName : Stmt := top 12
abbrev sLLeaf : Stmt := top 13
/-- an item of a written list by a draw -/
theorem pick {α : Type} {xs : List V} {n : Nat} (hn : xs.length = n) (h0 : 0 < n) {f : α → V} {Pz : α → Prop} (h : ∀ v ∈ xs, ∃ z, v = f z ∧ Pz z) (d : Int) : ∃ z, atI xs (d % ((n : Nat) : Int)) = some (f z) ∧ Pz z := by
  have e0 := Int.emod_nonneg d (show ((n : Nat) : Int) ≠ 0 by omega)
  have e1 := Int.emod_lt_of_pos d (show (0 : Int) < ((n : Nat) : Int) by omega)
  obtain ⟨j, hj⟩ : ∃ j : Nat, d % ((n : Nat) : Int) = (j : Nat) := ⟨(d % ((n : Nat) : Int)).toNat, by omega⟩
  rw [hj]
  have hj5 : j < xs.length := by omega
  obtain ⟨z, e, hz⟩ := h xs[j] (List.getElem_mem hj5)
  exact ⟨z, atI_nat (by rw [List.getElem?_eq_getElem hj5, e]), hz⟩
section
variable {P : Program} {w : World} {K : PySem.W.Frag} {mg : Str → Option Value} {base : Heap}
def spLWord (g : T → Bool) : Sp := fun vs H Q _ => ∃ d : Int, vs = [.int d] ∧ ∀ z H', Same H H' → g z = true → Q (.str (mk z)) H'
theorem scLWord : FnScope ["_law_draw"] ["_law_draw"] (defScope sLWord) := ⟨rfl, rfl, rfl, by decide +kernel, rfl, by decide +kernel, by decide +kernel⟩
theorem scLName : FnScope ["_law_draw"] ["_law_draw"] (defScope sLName) := ⟨rfl, rfl, rfl, by decide +kernel, rfl, by decide +kernel, by decide +kernel⟩
theorem all_ok {g : T → Bool} : ∀ {ws : List String}, (ws.all fun s => g (tl (Str.ofString s))) = true → ∀ v ∈ ws.map (fun s => V.str (Str.ofString s)), ∃ z, v = V.str (mk z) ∧ g z = true
  | ws, h, v, hv => by
    obtain ⟨s, hs, rfl⟩ := List.mem_map.mp hv
    exact ⟨tl (Str.ofString s), by rw [mk_tl], (List.all_eq_true.mp h) s hs⟩
theorem c_lword (D : Dn K mg "_law_word" sLWord) : C0 P w K mg base 1 "_law_word" (spLWord isFree) := by
  obtain ⟨f, fd, F, m⟩ := D.ex
  refine ⟨f, fd, ["_law_draw"], F.ok scLWord (fun vs H Q E h => ?_) (fun cdv A outer s H vs Q E hr h => ?_), m, F.kp, F.binds (ps := ["_law_draw"]) fun _ _ _ _ _ _ us hl => match us, hl with | [_], _ => rfl⟩
  · obtain ⟨d, rfl, _⟩ := h
    rfl
  obtain ⟨d, rfl, k⟩ := h
  refine ⟨_, pss_one (ps_ret (pe_ix ix_list (pe_lst (pa_cons pe_str (pa_cons pe_str (pa_cons pe_str (pa_cons pe_str (pa_cons pe_str (pa_cons pe_str (pa_cons pe_str (pa_cons pe_str (pa_cons pe_str (pa_cons pe_str pa_nil))))))))))) (pe_op op_mod (pv 0) pe_int) (fun _ _ => rfl))), ?_⟩
  refine ⟨by decide, fun l hl => ?_⟩
  obtain ⟨z, hz, gz⟩ := pick (n := 10) (f := fun z => V.str (mk z)) (Pz := fun z => isFree z = true) rfl (by decide) (all_ok (g := isFree) (ws := ["a", "b", "x1", "sum", "longnameofal", "k9", "z", "kinds", "news", "e"]) (by decide +kernel)) d
  exact ⟨_, rfl, _, _, rfl, rfl, (by show (0 : Int) < 10; decide), l, _, _, _, rfl, rfl, SqL.of upd_same, hz, k z _ (same_new hl _) gz⟩
theorem c_lname (D : Dn K mg "_law_name" sLName) : C0 P w K mg base 1 "_law_name" (spLWord isKindName) := by
  obtain ⟨f, fd, F, m⟩ := D.ex
  refine ⟨f, fd, ["_law_draw"], F.ok scLName (fun vs H Q E h => ?_) (fun cdv A outer s H vs Q E hr h => ?_), m, F.kp, F.binds (ps := ["_law_draw"]) fun _ _ _ _ _ _ us hl => match us, hl with | [_], _ => rfl⟩
  · obtain ⟨d, rfl, _⟩ := h
    rfl
  obtain ⟨d, rfl, k⟩ := h
  refine ⟨_, pss_one (ps_ret (pe_ix ix_list (pe_lst (pa_cons pe_str (pa_cons pe_str (pa_cons pe_str (pa_cons pe_str (pa_cons pe_str (pa_cons pe_str pa_nil))))))) (pe_op op_mod (pv 0) pe_int) (fun _ _ => rfl))), ?_⟩
  refine ⟨by decide, fun l hl => ?_⟩
  obtain ⟨z, hz, gz⟩ := pick (n := 6) (f := fun z => V.str (mk z)) (Pz := fun z => isKindName z = true) rfl (by decide) (all_ok (g := isKindName) (ws := ["Point", "A", "Cell9", "Thing", "LongNameOfIt", "ZZ"]) (by decide +kernel)) d
  exact ⟨_, rfl, _, _, rfl, rfl, (by show (0 : Int) < 6; decide), l, _, _, _, rfl, rfl, SqL.of upd_same, hz, k z _ (same_new hl _) gz⟩
/-! a leaf by a draw -/
def spLLeaf : Sp := fun vs H Q _ => ∃ d : Int, vs = [.int d] ∧ ∀ e v H', Same H H' → AtE H' e v → okE e → oE e = 0 → nE e = 1 → Q v H'
theorem scLLeaf : FnScope ["_law_draw", "_law_way", "_law_rest", "_law_some"] ["_law_draw"] (defScope sLLeaf) := ⟨rfl, rfl, rfl, by decide +kernel, rfl, by decide +kernel, by decide +kernel⟩
theorem c_lleaf (G1 : C0 P w K mg base 1 "_law_word" (spLWord isFree)) (G2 : C0 P w K mg base 1 "_law_name" (spLWord isKindName)) (D : Dn K mg "_law_leaf" sLLeaf) : C0 P w K mg base 2 "_law_leaf" spLLeaf := by
  obtain ⟨f, fd, F, m⟩ := D.ex
  refine ⟨f, fd, ["_law_draw"], F.ok scLLeaf (fun vs H Q E h => ?_) (fun cdv A outer s H vs Q E hr h => ?_), m, F.kp, F.binds (ps := ["_law_draw"]) fun _ _ _ _ _ _ us hl => match us, hl with | [_], _ => rfl⟩
  · obtain ⟨d, rfl, _⟩ := h
    rfl
  obtain ⟨d, rfl, k⟩ := h
  refine ⟨_, pss_cons (ps_set (i := 1) scLLeaf.nd rfl (Or.inl rfl) (pe_op op_mod (pv 0) pe_int)) <|
    pss_cons (ps_set (i := 2) scLLeaf.nd rfl (Or.inl rfl) (pe_op op_fdiv (pv 0) pe_int)) <|
    pss_cons (ps_if (pt_cmpR op_eq (pv 1) pe_int (nomark _))
      (pss_cons (ps_set (i := 3) scLLeaf.nd rfl (Or.inl rfl) (pe_lst (pa_cons pe_int (pa_cons pe_int (pa_cons (pe_un un_neg pe_int) (pa_cons pe_int (pa_cons (pe_op op_sub (pe_op op_pow pe_int pe_int) pe_int) (pa_cons (pe_op op_sub pe_int (pe_op op_pow pe_int pe_int)) (pa_cons (pe_op op_pow pe_int pe_int) (pa_cons (pe_un un_neg pe_int) pa_nil)))))))))) <|
        pss_one (ps_ret (pe_tup (pa_cons pe_str (pa_cons (pe_ix ix_list (pv 3) (pe_op op_mod (pv 2) pe_int) (fun _ _ => rfl)) pa_nil))))) pss_nil) <|
    pss_cons (ps_if (pt_cmpR op_eq (pv 1) pe_int (nomark _)) (pss_one (ps_ret (pe_tup (pa_cons pe_str (pa_cons (pe_ix ix_list (pe_lst (pa_cons pe_str (pa_cons pe_str (pa_cons pe_str (pa_cons (pe_op op_mul_str pe_str pe_int) (pa_cons pe_str (pa_cons pe_str pa_nil))))))) (pe_op op_mod (pv 2) pe_int) (fun _ _ => rfl)) pa_nil))))) pss_nil) <|
    pss_cons (ps_if (pt_cmpR op_eq (pv 1) pe_int (nomark _)) (pss_one (ps_ret (pe_tup (pa_cons pe_str (pa_cons (pe_cmpR op_eq (pe_op op_mod (pv 2) pe_int) pe_int (nomark _)) pa_nil))))) pss_nil) <|
    pss_cons (ps_if (pt_cmpR op_eq (pv 1) pe_int (nomark _)) (pss_one (ps_ret (pe_tup (pa_cons pe_str pa_nil)))) pss_nil) <|
    pss_cons (ps_if (pt_cmpR op_eq (pv 1) pe_int (nomark _)) (pss_one (ps_ret (pe_tup (pa_cons pe_str pa_nil)))) pss_nil) <|
    pss_cons (ps_if (pt_cmpR op_eq (pv 1) pe_int (nomark _)) (pss_one (ps_ret (pe_tup (pa_cons pe_str (pa_cons (pe_cc G1 hr (by decide) pass0 (pa_cons (pv 2) pa_nil)) pa_nil))))) pss_nil) <|
    pss_cons (ps_if (pt_cmpR op_eq (pv 1) pe_int (nomark _)) (pss_one (ps_ret (pe_tup (pa_cons pe_str (pa_cons (pe_cc G1 hr (by decide) pass0 (pa_cons (pv 2) pa_nil)) pa_nil))))) pss_nil) <|
    pss_one (ps_ret (pe_tup (pa_cons pe_str (pa_cons (pe_cc G2 hr (by decide) pass0 (pa_cons (pv 2) pa_nil)) pa_nil)))), ?_⟩
  refine ⟨_, rfl, _, _, rfl, rfl, (by show (0 : Int) < 8; decide), ?_⟩
  refine ⟨_, rfl, _, _, rfl, rfl, ⟨by decide, by decide⟩, ?_⟩
  refine ⟨_, rfl, rfl, _, rfl, ?_⟩
  refine ite2 (fun c => ?_) (fun c => ?_)
  · refine ⟨1, rfl, _, _, rfl, rfl, ⟨by decide, by decide, by decide⟩, _, _, rfl, rfl, _, _, rfl, rfl, ⟨by decide, by decide, by decide⟩, _, _, rfl, rfl, _, _, rfl, rfl, ⟨by decide, by decide, by decide⟩, 90, rfl, by show 8 ≤ sizeLine; decide, fun l hl => ?_⟩
    obtain ⟨z, hz, gz⟩ := pick (n := 8) (xs := [V.int 0, V.int 7, V.int (-1), V.int 42, V.int (10 ^ Int.toNat 12 - 1), V.int (1 - 10 ^ Int.toNat 12), V.int (10 ^ Int.toNat 11), V.int (-90)]) (f := V.int) (Pz := fun z => -1000000000000 < z ∧ z < 1000000000000) rfl (by decide) (fun v hv => by
      simp only [List.mem_cons, List.not_mem_nil, or_false] at hv
      rcases hv with rfl | rfl | rfl | rfl | rfl | rfl | rfl | rfl <;> exact ⟨_, rfl, by decide, by decide⟩) (d / 8)
    refine ⟨_, rfl, _, rfl, _, _, rfl, rfl, (by show (0 : Int) < 8; decide), l, _, _, _, rfl, rfl, SqL.of upd_same, hz, by show 2 ≤ sizeLine; decide, fun p hp => ?_⟩
    exact k (.num z) _ _ ((same_new hl _).trans (same_new hp _)) ⟨p, rfl, upd_same⟩ gz rfl rfl
  refine ⟨_, rfl, rfl, _, rfl, ?_⟩
  refine ite2 (fun c => ?_) (fun c => ?_)
  · refine ⟨_, 40, rfl, rfl, by decide, by decide, by decide +kernel, by decide +kernel, by show 6 ≤ sizeLine; decide, fun l hl => ?_⟩
    obtain ⟨z, hz, gz⟩ := pick (n := 6) (xs := [V.str (Str.ofString ""), V.str (Str.ofString "a"), V.str (Str.ofString "Hello_9"), V.str (repS (Str.ofString "x") 40), V.str (Str.ofString "_"), V.str (Str.ofString "nomethod")]) (f := fun z => V.str (mk z)) (Pz := fun z => isText z = true) rfl (by decide) (fun v hv => by
      simp only [List.mem_cons, List.not_mem_nil, or_false] at hv
      rcases hv with rfl | rfl | rfl | rfl | rfl | rfl
      · exact ⟨tl (Str.ofString ""), by rw [mk_tl], by decide +kernel⟩
      · exact ⟨tl (Str.ofString "a"), by rw [mk_tl], by decide +kernel⟩
      · exact ⟨tl (Str.ofString "Hello_9"), by rw [mk_tl], by decide +kernel⟩
      · exact ⟨tl (repS (Str.ofString "x") 40), by rw [mk_tl], by decide +kernel⟩
      · exact ⟨tl (Str.ofString "_"), by rw [mk_tl], by decide +kernel⟩
      · exact ⟨tl (Str.ofString "nomethod"), by rw [mk_tl], by decide +kernel⟩) (d / 8)
    refine ⟨_, rfl, _, _, rfl, rfl, (by show (0 : Int) < 6; decide), l, _, _, _, rfl, rfl, SqL.of upd_same, hz, by show 2 ≤ sizeLine; decide, fun p hp => ?_⟩
    exact k (.txt z) _ _ ((same_new hl _).trans (same_new hp _)) ⟨p, rfl, upd_same⟩ gz rfl rfl
  refine ⟨_, rfl, rfl, _, rfl, ?_⟩
  refine ite2 (fun c => ?_) (fun c => ?_)
  · refine ⟨_, rfl, _, _, rfl, rfl, (by show (0 : Int) < 2; decide), rfl, by show 2 ≤ sizeLine; decide, fun p hp => ?_⟩
    exact k (.tru _) _ _ (same_new hp _) ⟨p, rfl, upd_same⟩ trivial rfl rfl
  refine ⟨_, rfl, rfl, _, rfl, ?_⟩
  refine ite2 (fun c => ?_) (fun c => ?_)
  · exact ⟨by show 1 ≤ sizeLine; decide, fun p hp => k .non _ _ (same_new hp _) ⟨p, rfl, upd_same⟩ trivial rfl rfl⟩
  refine ⟨_, rfl, rfl, _, rfl, ?_⟩
  refine ite2 (fun c => ?_) (fun c => ?_)
  · exact ⟨by show 1 ≤ sizeLine; decide, fun p hp => k .slf _ _ (same_new hp _) ⟨p, rfl, upd_same⟩ trivial rfl rfl⟩
  refine ⟨_, rfl, rfl, _, rfl, ?_⟩
  refine ite2 (fun c => ?_) (fun c => ?_)
  · exact ⟨_, rfl, _, rfl, fun z H1 s1 gz => ⟨by show 2 ≤ sizeLine; decide, fun p hp => k (.nam z) _ _ (s1.trans (same_new hp _)) ⟨p, rfl, upd_same⟩ gz rfl rfl⟩⟩
  refine ⟨_, rfl, rfl, _, rfl, ?_⟩
  refine ite2 (fun c => ?_) (fun c => ?_)
  · exact ⟨_, rfl, _, rfl, fun z H1 s1 gz => ⟨by show 2 ≤ sizeLine; decide, fun p hp => k (.fld z) _ _ (s1.trans (same_new hp _)) ⟨p, rfl, upd_same⟩ gz rfl rfl⟩⟩
  exact ⟨_, rfl, _, rfl, fun z H1 s1 gz => ⟨by show 2 ≤ sizeLine; decide, fun p hp => k (.new z) _ _ (s1.trans (same_new hp _)) ⟨p, rfl, upd_same⟩ gz rfl rfl⟩⟩
end
end My
set_option Elab.async false
set_option linter.all false
set_option maxRecDepth 100000
set_option maxHeartbeats 2000000
namespace My
open PySem L2 SS
abbrev sGEs : Stmt := top 14
abbrev sGE : Stmt := top 15
abbrev sGB : Stmt := top 16
abbrev sGS : Stmt := top 17
section
variable {P : Program} {w : World} {K : PySem.W.Frag} {mg : Str → Option Value} {base : Heap}
/-! trees by draws: what the defs promise at depth d -/
def spGE (d : Nat) : Sp := fun vs H Q _ => ∃ (p l : Addr) (a : Nat) (b : Int) (xs : List Int) (dd : Int), vs = [.ref p, .int dd] ∧ dd = (d : Nat) ∧ DeckAt H p l a b xs ∧ (0 < b → (a : Int) + b + 10 * d + 1 ≤ 9000) ∧ (b ≤ 0 → a + 2 ≤ 9000) ∧
  ∀ e v H', SB p H H' → DeckAt H' p l (a + nE e) (b - nE e) xs → AtE H' e v → okE e → oE e ≤ d → (0 < b → (nE e : Int) ≤ b + 10 * d) → (b ≤ 0 → nE e = 1) → Q v H'
def spGS (d : Nat) : Sp := fun vs H Q _ => ∃ (p l : Addr) (a : Nat) (b : Int) (xs : List Int) (dd : Int), vs = [.ref p, .int dd] ∧ dd = (d : Nat) ∧ DeckAt H p l a b xs ∧ (0 < b → (a : Int) + b + 10 * d + 2 ≤ 9000) ∧ (b ≤ 0 → a + 3 ≤ 9000) ∧
  ∀ e v H', SB p H H' → DeckAt H' p l (a + nS e) (b - nS e) xs → AtS H' e v → okS e → oS e ≤ d → (0 < b → (nS e : Int) ≤ b + 10 * d + 1) → (b ≤ 0 → nS e = 2) → Q v H'
def spGEs (d : Nat) : Sp := fun vs H Q _ => ∃ (p l : Addr) (a : Nat) (b : Int) (xs : List Int) (dd mm : Int) (m : Nat), vs = [.ref p, .int mm, .int dd] ∧ dd = (d : Nat) ∧ mm = (m : Nat) ∧ m ≤ 100 ∧ DeckAt H p l a b xs ∧ (0 < b → (a : Int) + b + 10 * d + m + 1 ≤ 9000) ∧ (b ≤ 0 → a + m + 2 ≤ 9000) ∧
  ∀ es q ys H', SB p H H' → DeckAt H' p l (a + nEs es) (b - nEs es) xs → H' q = some (.tup ys) → AtEs H' es ys → okEs es → oEs es ≤ d → (0 < b → (nEs es : Int) ≤ b + 10 * d + m) → (b ≤ 0 → nEs es = m) → Q (.ref q) H'
def spGB (d : Nat) : Sp := fun vs H Q _ => ∃ (p l : Addr) (a : Nat) (b : Int) (xs : List Int) (dd mm : Int) (m : Nat), vs = [.ref p, .int mm, .int dd] ∧ dd = (d : Nat) ∧ mm = (m : Nat) ∧ m ≤ 100 ∧ DeckAt H p l a b xs ∧ (0 < b → (a : Int) + b + 10 * d + 2 * m + 2 ≤ 9000) ∧ (b ≤ 0 → a + 2 * m + 3 ≤ 9000) ∧
  ∀ es q ys H', SB p H H' → DeckAt H' p l (a + nSs es) (b - nSs es) xs → H' q = some (.tup ys) → AtSs H' es ys → okSs es → oSs es ≤ d → (0 < b → (nSs es : Int) ≤ b + 10 * d + 1 + 2 * m) → (b ≤ 0 → nSs es = 2 * m) → Q (.ref q) H'
theorem scGEs : FnScope ["_law_deck_here", "_law_many", "_law_depth", "_law_k"] ["_law_deck_here", "_law_many", "_law_depth"] (defScope sGEs) := ⟨rfl, rfl, rfl, by decide +kernel, rfl, by decide +kernel, by decide +kernel⟩
theorem scGB : FnScope ["_law_deck_here", "_law_many", "_law_depth", "_law_k"] ["_law_deck_here", "_law_many", "_law_depth"] (defScope sGB) := ⟨rfl, rfl, rfl, by decide +kernel, rfl, by decide +kernel, by decide +kernel⟩
theorem c_ges {d k : Nat} (TS : TxS K mg) (T : TxL mg) (D : Dn K mg "_law_es" sGEs) (G : C0 P w K mg base k "_law_e" (spGE d)) : C0 P w K mg base (k + 1) "_law_es" (spGEs d) := by
  obtain ⟨f, fd, F, m⟩ := D.ex
  refine ⟨f, fd, ["_law_deck_here", "_law_many", "_law_depth"], F.ok scGEs (fun vs H Q E h => ?_) (fun cdv A outer s H vs Q E hr h => ?_), m, F.kp, F.binds (ps := ["_law_deck_here", "_law_many", "_law_depth"]) fun _ _ _ _ _ _ us hl => match us, hl with | [_, _, _], _ => rfl⟩
  · obtain ⟨p, l, a, b, xs, dd, mm, m, rfl, _⟩ := h
    rfl
  obtain ⟨p, l, a, b, xs, dd, mm, m, rfl, rfl, rfl, hm, hd, hp1, hp2, kq⟩ := h
  refine ⟨_, pss_one (ps_ret (pe_callTy call_tuple_of (by rfl) TS.tup (by decide +kernel) (pa_cons (pe_lc (own := [("_law_k", 3)]) (g := gName 3) (tt := tYes) rfl scGEs.nd (pi_range1 rfl T.range (pa_cons (pv 1) pa_nil))
    (blkOk_by (own := [("_law_k", 3)]) (N := ["_law_deck_here", "_law_many", "_law_depth", "_law_k"]) (sc := defScope sGEs) (by decide +kernel)) (fun _ _ _ _ _ => pg_name (i := 3) scGEs.nd rfl (Or.inl rfl)) (fun _ _ _ _ _ => pts_nil)
    (fun _ _ _ _ _ => pe_cc G hr (Nat.le_refl _) pass0 (pa_cons (pv 0) (pa_cons (pv 2) pa_nil)))) pa_nil))), ?_⟩
  refine ⟨_, rfl, ((m : Nat) : Int), rfl, by omega, by omega, fun D hD => ?_⟩
  have hDn := hd.ne hD
  refine lc_range (lo := 0) (n := ((m : Nat) : Int).toNat) (fun i H1 => ∃ (es : Exs) (ys : List V), SB p H H1 ∧ DeckAt H1 p l (a + nEs es) (b - nEs es) xs ∧ H1 D = some (.lst ys) ∧ AtEs H1 es ys ∧ okEs es ∧ oEs es ≤ d ∧ cE es = i ∧ (0 < b → (nEs es : Int) ≤ b + 10 * d + i) ∧ (b ≤ 0 → nEs es = i))
    ⟨.nil, [], SB.same (same_new hD _), by show DeckAt _ p l (a + 0) (b - ((0 : Nat) : Int)) xs; rw [Nat.add_zero, show b - ((0 : Nat) : Int) = b by omega]; exact hd.new hD _, upd_same, rfl, trivial, Nat.zero_le _, rfl, fun h => by show ((0 : Nat) : Int) ≤ _; omega, fun _ => rfl⟩ ?_ ?_
  · rintro i H1 hi ⟨es, ys, s1, d1, hD1, at1, ok1, o1, c1, n1, n2⟩
    have hi' : i < m := by omega
    refine ⟨rfl, ?_⟩
    unfold tYes
    refine iteT ?_
    refine ⟨_, rfl, _, rfl, p, l, a + nEs es, b - nEs es, xs, _, rfl, rfl, d1, fun h => ?_, fun h => ?_, fun e v H2 s2 d2 at2 ok2 o2 g1 g2 => ?_⟩
    · by_cases hb : 0 < b
      · have := hp1 hb; have := n1 hb; omega
      · have := n2 (by omega); omega
    · by_cases hb : 0 < b
      · have := hp1 hb; have := n1 hb; omega
      · have := n2 (by omega); have := hp2 (by omega); omega
    obtain ⟨q1, q2, q3, q4, q5⟩ := Exs.snoc_n es e
    have hD2 : H2 D = some (.lst ys) := s2 _ _ hDn.1 hD1
    have tup : Tups H1 (upd H2 D (.lst (ys ++ [v]))) := (s2.tups d1.1).trans (tups_lst hD2)
    refine ⟨ys, hD2, by rw [at1.len, c1, sizeLine_eq]; omega, es.snoc e, ys ++ [v], ?_, ?_, upd_same, ?_, q3.mpr ⟨ok1, ok2⟩, by rw [q2]; exact Nat.max_le.mpr ⟨o1, o2⟩, by rw [q4, c1], fun hb => ?_, fun hb => ?_⟩
    · intro q u n h
      rw [upd_ne (ne_of_none h hD)]
      exact s2 q u n (s1 q u n h)
    · rw [q1]
      have e1 : a + nEs es + nE e = a + (nEs es + nE e) := by omega
      have e2 : b - (nEs es : Int) - (nE e : Int) = b - ((nEs es + nE e : Nat) : Int) := by omega
      rw [e1, e2] at d2
      exact ⟨by rw [upd_ne hDn.1.symm]; exact d2.1, by rw [upd_ne hDn.2.symm]; exact d2.2.1, d2.2.2⟩
    · exact Exs.at_snoc (at1.on_ tup) (at2.on_ (tups_lst hD2))
    · rw [q1]
      have := n1 hb
      by_cases h : 0 < b - (nEs es : Int)
      · have := g1 h; omega
      · have := g2 (by omega); omega
    · rw [q1]
      have := n2 hb
      have := g2 (by omega)
      omega
  · rintro H1 ⟨es, ys, s1, d1, hD1, at1, ok1, o1, c1, n1, n2⟩
    have cm : cE es = m := by omega
    refine ⟨D, ys, rfl, .inl ⟨SqL.of hD1, fun q hq => ?_⟩⟩
    have s2 := same_new hq (.tup ys)
    refine kq es q ys _ (s1.trans (SB.same s2)) (d1.same s2) upd_same (at1.on_ (same_tups s2)) ok1 o1 (fun hb => ?_) (fun hb => ?_)
    · have := n1 hb; omega
    · have := n2 hb; omega
theorem c_gb {d k : Nat} (TS : TxS K mg) (T : TxL mg) (D : Dn K mg "_law_body" sGB) (G : C0 P w K mg base k "_law_statement" (spGS d)) : C0 P w K mg base (k + 1) "_law_body" (spGB d) := by
  obtain ⟨f, fd, F, m⟩ := D.ex
  refine ⟨f, fd, ["_law_deck_here", "_law_many", "_law_depth"], F.ok scGB (fun vs H Q E h => ?_) (fun cdv A outer s H vs Q E hr h => ?_), m, F.kp, F.binds (ps := ["_law_deck_here", "_law_many", "_law_depth"]) fun _ _ _ _ _ _ us hl => match us, hl with | [_, _, _], _ => rfl⟩
  · obtain ⟨p, l, a, b, xs, dd, mm, m, rfl, _⟩ := h
    rfl
  obtain ⟨p, l, a, b, xs, dd, mm, m, rfl, rfl, rfl, hm, hd, hp1, hp2, kq⟩ := h
  refine ⟨_, pss_one (ps_ret (pe_callTy call_tuple_of (by rfl) TS.tup (by decide +kernel) (pa_cons (pe_lc (own := [("_law_k", 3)]) (g := gName 3) (tt := tYes) rfl scGB.nd (pi_range1 rfl T.range (pa_cons (pv 1) pa_nil))
    (blkOk_by (own := [("_law_k", 3)]) (N := ["_law_deck_here", "_law_many", "_law_depth", "_law_k"]) (sc := defScope sGB) (by decide +kernel)) (fun _ _ _ _ _ => pg_name (i := 3) scGB.nd rfl (Or.inl rfl)) (fun _ _ _ _ _ => pts_nil)
    (fun _ _ _ _ _ => pe_cc G hr (Nat.le_refl _) pass0 (pa_cons (pv 0) (pa_cons (pv 2) pa_nil)))) pa_nil))), ?_⟩
  refine ⟨_, rfl, ((m : Nat) : Int), rfl, by omega, by omega, fun D hD => ?_⟩
  have hDn := hd.ne hD
  refine lc_range (lo := 0) (n := ((m : Nat) : Int).toNat) (fun i H1 => ∃ (es : Sts) (ys : List V), SB p H H1 ∧ DeckAt H1 p l (a + nSs es) (b - nSs es) xs ∧ H1 D = some (.lst ys) ∧ AtSs H1 es ys ∧ okSs es ∧ oSs es ≤ d ∧ cS es = i ∧ (0 < b → (nSs es : Int) ≤ b + 10 * d + 1 + 2 * i) ∧ (b ≤ 0 → nSs es = 2 * i))
    ⟨.nil, [], SB.same (same_new hD _), by show DeckAt _ p l (a + 0) (b - ((0 : Nat) : Int)) xs; rw [Nat.add_zero, show b - ((0 : Nat) : Int) = b by omega]; exact hd.new hD _, upd_same, rfl, trivial, Nat.zero_le _, rfl, fun h => by show ((0 : Nat) : Int) ≤ _; omega, fun _ => rfl⟩ ?_ ?_
  · rintro i H1 hi ⟨es, ys, s1, d1, hD1, at1, ok1, o1, c1, n1, n2⟩
    have hi' : i < m := by omega
    refine ⟨rfl, ?_⟩
    unfold tYes
    refine iteT ?_
    refine ⟨_, rfl, _, rfl, p, l, a + nSs es, b - nSs es, xs, _, rfl, rfl, d1, fun h => ?_, fun h => ?_, fun e v H2 s2 d2 at2 ok2 o2 g1 g2 => ?_⟩
    · by_cases hb : 0 < b
      · have := hp1 hb; have := n1 hb; omega
      · have := n2 (by omega); omega
    · by_cases hb : 0 < b
      · have := hp1 hb; have := n1 hb; omega
      · have := n2 (by omega); have := hp2 (by omega); omega
    obtain ⟨q1, q2, q3, q4, q5⟩ := Sts.snoc_n es e
    have hD2 : H2 D = some (.lst ys) := s2 _ _ hDn.1 hD1
    have tup : Tups H1 (upd H2 D (.lst (ys ++ [v]))) := (s2.tups d1.1).trans (tups_lst hD2)
    refine ⟨ys, hD2, by rw [at1.len, c1, sizeLine_eq]; omega, es.snoc e, ys ++ [v], ?_, ?_, upd_same, ?_, q3.mpr ⟨ok1, ok2⟩, by rw [q2]; exact Nat.max_le.mpr ⟨o1, o2⟩, by rw [q4, c1], fun hb => ?_, fun hb => ?_⟩
    · intro q u n h
      rw [upd_ne (ne_of_none h hD)]
      exact s2 q u n (s1 q u n h)
    · rw [q1]
      have e1 : a + nSs es + nS e = a + (nSs es + nS e) := by omega
      have e2 : b - (nSs es : Int) - (nS e : Int) = b - ((nSs es + nS e : Nat) : Int) := by omega
      rw [e1, e2] at d2
      exact ⟨by rw [upd_ne hDn.1.symm]; exact d2.1, by rw [upd_ne hDn.2.symm]; exact d2.2.1, d2.2.2⟩
    · exact Sts.at_snoc (at1.on_ tup) (at2.on_ (tups_lst hD2))
    · rw [q1]
      have := n1 hb
      by_cases h : 0 < b - (nSs es : Int)
      · have := g1 h; omega
      · have := g2 (by omega); omega
    · rw [q1]
      have := n2 hb
      have := g2 (by omega)
      omega
  · rintro H1 ⟨es, ys, s1, d1, hD1, at1, ok1, o1, c1, n1, n2⟩
    have cm : cS es = m := by omega
    refine ⟨D, ys, rfl, .inl ⟨SqL.of hD1, fun q hq => ?_⟩⟩
    have s2 := same_new hq (.tup ys)
    refine kq es q ys _ (s1.trans (SB.same s2)) (d1.same s2) upd_same (at1.on_ (same_tups s2)) ok1 o1 (fun hb => ?_) (fun hb => ?_)
    · have := n1 hb; omega
    · have := n2 hb; omega
end
end My
set_option Elab.async false
set_option linter.all false
set_option maxRecDepth 100000
set_option maxHeartbeats 4000000
namespace My
open PySem L2 SS
section
variable {P : Program} {w : World} {K : PySem.W.Frag} {mg : Str → Option Value} {base : Heap}
def spF : Sp := fun _ _ _ _ => False
def prevE : Nat → Sp
  | 0 => spF
  | d + 1 => spGE d
def prevEs : Nat → Sp
  | 0 => spF
  | d + 1 => spGEs d
def prevB : Nat → Sp
  | 0 => spF
  | d + 1 => spGB d
theorem DeckAt.cast {H : Hp} {p l : Addr} {a a' : Nat} {b b' : Int} {xs : List Int} (h : DeckAt H p l a b xs) (ea : a = a') (eb : b = b') : DeckAt H p l a' b' xs := by
  subst ea eb
  exact h
theorem scGE : FnScope ["_law_deck_here", "_law_depth", "_law_draw", "_law_way", "_law_rest", "_law_message", "_law_receiver", "_law_words", "_law_k"] ["_law_deck_here", "_law_depth"] (defScope sGE) := ⟨rfl, rfl, rfl, by decide +kernel, rfl, by decide +kernel, by decide +kernel⟩
theorem emod_nat (x : Int) {n : Nat} (h : 0 < n) : ∃ m : Nat, x % ((n : Nat) : Int) = ((m : Nat) : Int) ∧ m < n := by
  have e0 := Int.emod_nonneg x (show ((n : Nat) : Int) ≠ 0 by omega)
  have e1 := Int.emod_lt_of_pos x (show (0 : Int) < ((n : Nat) : Int) by omega)
  exact ⟨(x % ((n : Nat) : Int)).toNat, by omega, by omega⟩
theorem c_ge {d k : Nat} (hk : 3 ≤ k + 3) (TS : TxS K mg) (T : TxL mg) (D : Dn K mg "_law_e" sGE) (GN : C0 P w K mg base 1 "_law_next" spNext) (GW : C0 P w K mg base 1 "_law_word" (spLWord isFree)) (GL : C0 P w K mg base 2 "_law_leaf" spLLeaf)
    (GE : C0 P w K mg base k "_law_e" (prevE d)) (GEs : C0 P w K mg base (k + 1) "_law_es" (prevEs d)) (GB : C0 P w K mg base (k + 2) "_law_body" (prevB d)) : C0 P w K mg base (k + 3) "_law_e" (spGE d) := by
  obtain ⟨f, fd, F, m⟩ := D.ex
  refine ⟨f, fd, ["_law_deck_here", "_law_depth"], F.ok scGE (fun vs H Q E h => ?_) (fun cdv A outer s H vs Q E hr h => ?_), m, F.kp, F.binds (ps := ["_law_deck_here", "_law_depth"]) fun _ _ _ _ _ _ us hl => match us, hl with | [_, _], _ => rfl⟩
  · obtain ⟨p, l, a, b, xs, dd, rfl, _⟩ := h
    rfl
  obtain ⟨p, l, a, b, xs, dd, rfl, rfl, hd, hp1, hp2, kq⟩ := h
  refine ⟨_, pss_cons (ps_set (i := 2) scGE.nd rfl (Or.inl rfl) (pe_cc GN hr (by omega) pass0 (pa_cons (pv 0) pa_nil))) <|
    pss_cons (ps_asg (pe_op op_sub (pe_ix ix_list (pv 0) pe_int (fun _ _ => rfl)) pe_int) (pg_sub (pv 0) pe_int set_list)) <|
    pss_cons (ps_set (i := 3) scGE.nd rfl (Or.inl rfl) (pe_op op_mod (pv 2) pe_int)) <|
    pss_cons (ps_set (i := 4) scGE.nd rfl (Or.inr rfl) (pe_op op_fdiv (pv 2) pe_int)) <|
    pss_cons (ps_if (PW.pt (pw_or (pt_cmpR op_lt (pv 1) pe_int (nomark _)) (pw_or (pt_cmpR op_lt (pe_ix ix_list (pv 0) pe_int (fun _ _ => rfl)) pe_int (nomark _)) (pw_or1 (pt_cmpR op_lt (pv 3) pe_int (nomark _)))))) (pss_one (ps_ret (pe_cc GL hr (by omega) pass0 (pa_cons (pv 4) pa_nil)))) pss_nil) <|
    pss_cons (ps_if (pt_cmpR op_lt (pv 3) pe_int (nomark _))
      (pss_cons (ps_set (i := 5) scGE.nd rfl (Or.inl rfl) (pe_ix ix_list (pe_lst (pa_cons pe_str (pa_cons pe_str (pa_cons pe_str (pa_cons pe_str (pa_cons pe_str (pa_cons pe_str (pa_cons (pe_cc GW hr (by omega) pass0 (pa_cons (pe_op op_fdiv (pv 4) pe_int) pa_nil)) pa_nil)))))))) (pe_op op_mod (pv 4) pe_int) (fun _ _ => rfl))) <|
        pss_cons (ps_set (i := 6) scGE.nd rfl (Or.inl rfl) (pe_cc GE hr (by omega) pass0 (pa_cons (pv 0) (pa_cons (pe_op op_sub (pv 1) pe_int) pa_nil)))) <|
        pss_one (ps_ret (pe_tup (pa_cons pe_str (pa_cons (pv 6) (pa_cons (pv 5) (pa_cons (pe_cc GEs hr (by omega) pass0 (pa_cons (pv 0) (pa_cons (pe_op op_mod (pe_op op_fdiv (pv 4) pe_int) pe_int) (pa_cons (pe_op op_sub (pv 1) pe_int) pa_nil)))) pa_nil))))))) pss_nil) <|
    pss_cons (ps_if (pt_cmpR op_eq (pv 3) pe_int (nomark _)) (pss_one (ps_ret (pe_tup (pa_cons pe_str (pa_cons (pe_cc GW hr (by omega) pass0 (pa_cons (pv 4) pa_nil)) (pa_cons (pe_cc GEs hr (by omega) pass0 (pa_cons (pv 0) (pa_cons (pe_op op_mod (pe_op op_fdiv (pv 4) pe_int) pe_int) (pa_cons (pe_op op_sub (pv 1) pe_int) pa_nil)))) pa_nil)))))) pss_nil) <|
    pss_cons (ps_if (pt_cmpR op_eq (pv 3) pe_int (nomark _)) (pss_one (ps_ret (pe_tup (pa_cons pe_str (pa_cons (pe_cc GEs hr (by omega) pass0 (pa_cons (pv 0) (pa_cons (pe_op op_mod (pv 4) pe_int) (pa_cons (pe_op op_sub (pv 1) pe_int) pa_nil)))) pa_nil))))) pss_nil) <|
    pss_cons (ps_set (i := 7) scGE.nd rfl (Or.inl rfl) (pe_callTy call_tuple_of (by rfl) TS.tup (by decide +kernel) (pa_cons (pe_lc (own := [("_law_k", 8)]) (g := gName 8) (tt := tYes) rfl scGE.nd (pi_range1 rfl T.range (pa_cons (pe_op op_mod (pe_op op_fdiv (pv 4) pe_int) pe_int) pa_nil))
      (blkOk_by (own := [("_law_k", 8)]) (N := ["_law_deck_here", "_law_depth", "_law_draw", "_law_way", "_law_rest", "_law_message", "_law_receiver", "_law_words", "_law_k"]) (sc := defScope sGE) (by decide +kernel)) (fun _ _ _ _ _ => pg_name (i := 8) scGE.nd rfl (Or.inl rfl)) (fun _ _ _ _ _ => pts_nil)
      (fun _ _ _ _ _ => pe_cc GW hr (by omega) pass0 (pa_cons (pe_op op_add (pv 4) (pe_op op_mul (pv 8) (pe_op op_add pe_int (pe_op op_mod (pe_op op_fdiv (pv 4) pe_int) pe_int)))) pa_nil))) pa_nil))) <|
    pss_one (ps_ret (pe_tup (pa_cons pe_str (pa_cons (pv 7) (pa_cons (pe_cc GB hr (by omega) pass0 (pa_cons (pv 0) (pa_cons (pe_op op_mod (pe_op op_fdiv (pv 4) pe_int) pe_int) (pa_cons (pe_op op_sub (pv 1) pe_int) pa_nil)))) pa_nil))))), ?_⟩
  have ha : a ≤ 10000 := by
    by_cases hb : 0 < b
    · have := hp1 hb; omega
    · have := hp2 (by omega); omega
  refine ⟨_, rfl, p, l, a, b, xs, rfl, hd, ha, fun n hn d1 => ?_⟩
  have s1 : SB p H (upd H p (.lst [.int ((a + 1 : Nat) : Int), .ref l, .int b])) := SB.upd _
  generalize upd H p (.lst [.int ((a + 1 : Nat) : Int), .ref l, .int b]) = H1 at d1 s1 ⊢
  refine ⟨_, rfl, p, _, _, _, rfl, rfl, SqL.of d1.1, atI_nat (j := 2) rfl, _, _, rfl, rfl, _, rfl, p, _, 2, 2, rfl, rfl, d1.1, rfl, ?_⟩
  have d2 : DeckAt (upd H1 p (.lst (([V.int ((a + 1 : Nat) : Int), .ref l, .int b] : List V).set 2 (.int (b - 1))))) p l (a + 1) (b - 1) xs := ⟨upd_same, by rw [upd_ne d1.2.2.1.symm]; exact d1.2.1, d1.2.2⟩
  have s2 : SB p H (upd H1 p (.lst (([V.int ((a + 1 : Nat) : Int), .ref l, .int b] : List V).set 2 (.int (b - 1))))) := s1.trans (SB.upd _)
  show tSeq _ _ _ _ (upd H1 p (.lst (([V.int ((a + 1 : Nat) : Int), .ref l, .int b] : List V).set 2 (.int (b - 1)))))
  generalize upd H1 p (.lst (([V.int ((a + 1 : Nat) : Int), .ref l, .int b] : List V).set 2 (.int (b - 1)))) = H2 at d2 s2 ⊢
  refine ⟨_, rfl, _, _, rfl, rfl, (by show (0 : Int) < 13; decide), ?_⟩
  refine ⟨_, rfl, _, _, rfl, rfl, ⟨by decide, by decide⟩, ?_⟩
  have leafK : ∀ e v H3, Same H2 H3 → AtE H3 e v → okE e → oE e = 0 → nE e = 1 → Q v H3 := fun e v H3 s3 at3 ok3 o3 n3 =>
    kq e v H3 (s2.trans (SB.same s3)) ((d2.same s3).cast (by rw [n3]) (by rw [n3]; rfl)) at3 ok3 (by omega) (fun _ => by rw [n3]; omega) (fun _ => n3)
  refine ⟨_, rfl, _, _, rfl, rfl, _, rfl, ?_⟩
  refine ite2 (fun c => iteT ⟨_, rfl, _, rfl, leafK⟩) (fun c => ?_)
  refine ⟨_, rfl, p, _, _, _, rfl, rfl, SqL.of d2.1, atI_nat (j := 2) rfl, _, _, rfl, rfl, _, rfl, ?_⟩
  refine ite2 (fun c2 => iteT ⟨_, rfl, _, rfl, leafK⟩) (fun c2 => ?_)
  refine ⟨_, rfl, _, _, rfl, rfl, _, rfl, ?_⟩
  refine ite2 (fun c3 => ⟨_, rfl, _, rfl, leafK⟩) (fun c3 => ?_)
  have hb1 : ¬ (b - 1 < 0) := of_decide_eq_false (Bool.eq_false_iff.mpr c2)
  have hb : 0 < b := by omega
  have hp := hp1 hb
  cases d with
  | zero => exact absurd (decide_eq_true (show (((0 : Nat) : Int)) < 1 by decide)) c
  | succ d =>
    have ed : ((d + 1 : Nat) : Int) - 1 = ((d : Nat) : Int) := by omega
    refine ⟨_, rfl, _, _, rfl, rfl, _, rfl, ?_⟩
    refine ite2 (fun c4 => ?_) (fun c4 => ?_)
    · -- a send
      refine ⟨_, rfl, _, _, rfl, rfl, ⟨by decide, by decide⟩, _, rfl, fun z H3 s3 gz => ?_⟩
      refine ⟨by show 7 ≤ sizeLine; decide, fun L hL => ?_⟩
      obtain ⟨mz, hmz, gmz⟩ := pick (n := 7) (xs := [V.str (Str.ofString "+"), V.str (Str.ofString "-"), V.str (Str.ofString "*"), V.str (Str.ofString "/"), V.str (Str.ofString "<"), V.str (Str.ofString "="), V.str (mk z)]) (f := fun z => V.str (mk z)) (Pz := fun z => isMsg z = true) rfl (by decide) (fun v hv => by
        simp only [List.mem_cons, List.not_mem_nil, or_false] at hv
        rcases hv with rfl | rfl | rfl | rfl | rfl | rfl | rfl
        · exact ⟨tl (Str.ofString "+"), by rw [mk_tl], by decide +kernel⟩
        · exact ⟨tl (Str.ofString "-"), by rw [mk_tl], by decide +kernel⟩
        · exact ⟨tl (Str.ofString "*"), by rw [mk_tl], by decide +kernel⟩
        · exact ⟨tl (Str.ofString "/"), by rw [mk_tl], by decide +kernel⟩
        · exact ⟨tl (Str.ofString "<"), by rw [mk_tl], by decide +kernel⟩
        · exact ⟨tl (Str.ofString "="), by rw [mk_tl], by decide +kernel⟩
        · exact ⟨z, rfl, by unfold isMsg; rw [gz]; rfl⟩) (n / 13)
      refine ⟨_, rfl, _, _, rfl, rfl, (by show (0 : Int) < 7; decide), L, _, _, _, rfl, rfl, SqL.of upd_same, hmz, ?_⟩
      have s4 := s3.trans (same_new hL (.lst [V.str (Str.ofString "+"), V.str (Str.ofString "-"), V.str (Str.ofString "*"), V.str (Str.ofString "/"), V.str (Str.ofString "<"), V.str (Str.ofString "="), V.str (mk z)]))
      have d4 := d2.same s4
      refine ⟨_, rfl, _, rfl, _, _, rfl, rfl, p, l, a + 1, b - 1, xs, _, rfl, ed, d4, fun h => by omega, fun h => by omega, fun e1 v1 H5 s5 d5 at5 ok5 o5 g1 g2 => ?_⟩
      obtain ⟨mm, emm, hmm⟩ := emod_nat (n / 13 / 70) (n := 3) (by decide)
      refine ⟨_, rfl, _, rfl, _, rfl, _, rfl, _, _, rfl, rfl, ⟨by decide, by decide⟩, _, _, rfl, rfl, (by show (0 : Int) < 3; decide), _, rfl, _, _, rfl, rfl, p, l, _, _, xs, _, _, mm, rfl, ed, emm, by omega, d5, fun h => ?_, fun h => ?_, fun es q ys H6 s6 d6 hq at6 ok6 o6 g3 g4 => ?_⟩
      · omega
      · by_cases h1 : 0 < b - 1
        · have := g1 h1; omega
        · have := g2 (by omega); omega
      refine ⟨by show 4 ≤ sizeLine; decide, fun r hr2 => ?_⟩
      have sr := same_new hr2 (.tup [S_ "send", v1, .str (mk mz), .ref q])
      have t6 := s6.tups d5.1
      refine kq (.send e1 mz es) (.ref r) _ (((s2.trans (SB.same s4)).trans s5).trans (s6.trans (SB.same sr))) ((d6.same sr).cast (by simp only [nE]; omega) (by simp only [nE]; omega)) ⟨r, v1, q, ys, rfl, upd_same, sr _ _ hq, (at5.on_ t6).on_ (same_tups sr), at6.on_ (same_tups sr)⟩ ⟨gmz, ok5, ok6⟩ (by simp only [oE]; omega) (fun _ => ?_) (fun h => by omega)
      simp only [nE]
      by_cases h1 : 0 < b - 1
      · have := g1 h1
        by_cases h2 : 0 < b - 1 - (nE e1 : Int)
        · have := g3 h2; omega
        · have := g4 (by omega); omega
      · have := g2 (by omega)
        have := g4 (by omega)
        omega
    refine ⟨_, rfl, rfl, _, rfl, ?_⟩
    refine ite2 (fun c5 => ?_) (fun c5 => ?_)
    · -- an up
      obtain ⟨mm, emm, hmm⟩ := emod_nat (n / 13 / 10) (n := 3) (by decide)
      refine ⟨_, rfl, _, rfl, fun z H3 s3 gz => ?_⟩
      have d3 := d2.same s3
      refine ⟨_, rfl, _, rfl, _, _, rfl, rfl, ⟨by decide, by decide⟩, _, _, rfl, rfl, (by show (0 : Int) < 3; decide), _, rfl, _, _, rfl, rfl, p, l, _, _, xs, _, _, mm, rfl, ed, emm, by omega, d3, fun h => by omega, fun h => by omega, fun es q ys H6 s6 d6 hq at6 ok6 o6 g3 g4 => ?_⟩
      refine ⟨by show 3 ≤ sizeLine; decide, fun r hr2 => ?_⟩
      have sr := same_new hr2 (.tup [S_ "up", .str (mk z), .ref q])
      refine kq (.up z es) (.ref r) _ ((s2.trans (SB.same s3)).trans (s6.trans (SB.same sr))) ((d6.same sr).cast (by simp only [nE]; omega) (by simp only [nE]; omega)) ⟨r, q, ys, rfl, upd_same, sr _ _ hq, at6.on_ (same_tups sr)⟩ ⟨gz, ok6⟩ (by simp only [oE]; omega) (fun _ => ?_) (fun h => by omega)
      simp only [nE]
      by_cases h2 : 0 < b - 1
      · have := g3 h2; omega
      · have := g4 (by omega); omega
    refine ⟨_, rfl, rfl, _, rfl, ?_⟩
    refine ite2 (fun c6 => ?_) (fun c6 => ?_)
    · -- a list
      obtain ⟨mm, emm, hmm⟩ := emod_nat (n / 13) (n := 4) (by decide)
      refine ⟨_, rfl, _, rfl, _, _, rfl, rfl, (by show (0 : Int) < 4; decide), _, rfl, _, _, rfl, rfl, p, l, _, _, xs, _, _, mm, rfl, ed, emm, by omega, d2, fun h => by omega, fun h => by omega, fun es q ys H6 s6 d6 hq at6 ok6 o6 g3 g4 => ?_⟩
      refine ⟨by show 2 ≤ sizeLine; decide, fun r hr2 => ?_⟩
      have sr := same_new hr2 (.tup [S_ "list", .ref q])
      refine kq (.lst es) (.ref r) _ (s2.trans (s6.trans (SB.same sr))) ((d6.same sr).cast (by simp only [nE]; omega) (by simp only [nE]; omega)) ⟨r, q, ys, rfl, upd_same, sr _ _ hq, at6.on_ (same_tups sr)⟩ ok6 (by simp only [oE]; omega) (fun _ => ?_) (fun h => by omega)
      simp only [nE]
      by_cases h2 : 0 < b - 1
      · have := g3 h2; omega
      · have := g4 (by omega); omega
    -- a block
    obtain ⟨m3, em3, hm3⟩ := emod_nat (n / 13 / 30) (n := 3) (by decide)
    refine ⟨_, rfl, _, _, rfl, rfl, ⟨by decide, by decide⟩, _, _, rfl, rfl, (by show (0 : Int) < 3; decide), ((m3 : Nat) : Int), by rw [← em3]; rfl, by omega, by omega, fun D0 hD0 => ?_⟩
    have hDn := d2.ne hD0
    refine lc_range (lo := 0) (n := ((m3 : Nat) : Int).toNat) (fun i H3 => ∃ (ws : List (List Nat)), Same H2 H3 ∧ H3 D0 = some (.lst (wsV ws)) ∧ ws.length = i ∧ ∀ z ∈ ws, isFree z = true) ⟨[], same_new hD0 _, upd_same, rfl, fun z hz => by simp at hz⟩ ?_ ?_
    · rintro i H3 hi ⟨ws, s3, h3, hl3, hf3⟩
      have hi' : i < m3 := by omega
      refine ⟨rfl, ?_⟩
      unfold tYes
      refine iteT ?_
      refine ⟨_, rfl, _, rfl, _, rfl, _, _, rfl, rfl, ⟨by decide, by decide⟩, _, _, rfl, rfl, (by show (0 : Int) < 3; decide), _, _, rfl, rfl, _, _, rfl, rfl, .inl ⟨by omega, by omega⟩, _, _, rfl, rfl, _, rfl, fun z H4 s4 gz => ?_⟩
      refine ⟨wsV ws, s4 _ _ h3, by unfold wsV; rw [List.length_map, sizeLine_eq]; omega, ws ++ [z], ?_, ?_, by rw [List.length_append, hl3]; rfl, fun x hx => ?_⟩
      · intro q u h
        rw [upd_ne (ne_of_none h hD0)]
        exact s4 _ _ (s3 _ _ h)
      · rw [upd_same]
        unfold wsV
        rw [List.map_append]
        rfl
      · rcases List.mem_append.mp hx with hx | hx
        · exact hf3 x hx
        · have : x = z := by simpa using hx
          rw [this]
          exact gz
    rintro H3 ⟨ws, s3, h3, hl3, hf3⟩
    refine ⟨D0, _, rfl, .inl ⟨SqL.of h3, fun tq htq => ?_⟩⟩
    have s4 := s3.trans (same_new htq (.tup (wsV ws)))
    have d4 := d2.same s4
    have aw : AtW (upd H3 tq (.tup (wsV ws))) ws (.ref tq) := ⟨tq, rfl, upd_same⟩
    obtain ⟨mm, emm, hmm⟩ := emod_nat (n / 13 / 90) (n := 3) (by decide)
    refine ⟨_, rfl, _, rfl, _, rfl, _, _, rfl, rfl, ⟨by decide, by decide⟩, _, _, rfl, rfl, (by show (0 : Int) < 3; decide), _, rfl, _, _, rfl, rfl, p, l, _, _, xs, _, _, mm, rfl, ed, emm, by omega, d4, fun h => by omega, fun h => by omega, fun es q ys H6 s6 d6 hq at6 ok6 o6 g3 g4 => ?_⟩
    refine ⟨by show 3 ≤ sizeLine; decide, fun r hr2 => ?_⟩
    have sr := same_new hr2 (.tup [S_ "block", .ref tq, .ref q])
    have t6 := (s6.tups d4.1).trans (same_tups sr)
    refine kq (.blk ws es) (.ref r) _ ((s2.trans (SB.same s4)).trans (s6.trans (SB.same sr))) ((d6.same sr).cast (by simp only [nE]; omega) (by simp only [nE]; omega)) ⟨r, _, q, ys, rfl, upd_same, sr _ _ hq, aw.on t6, at6.on_ (same_tups sr)⟩ ⟨by omega, hf3, ok6⟩ (by simp only [oE]; omega) (fun _ => ?_) (fun h => by omega)
    simp only [nE]
    by_cases h2 : 0 < b - 1
    · have := g3 h2; omega
    · have := g4 (by omega); omega
end
end My
set_option Elab.async false
set_option linter.all false
set_option maxRecDepth 100000
set_option maxHeartbeats 4000000
namespace My
open PySem L2 SS
section
variable {P : Program} {w : World} {K : PySem.W.Frag} {mg : Str → Option Value} {base : Heap}
theorem scGS : FnScope ["_law_deck_here", "_law_depth", "_law_draw", "_law_way", "_law_rest", "_law_test", "_law_first"] ["_law_deck_here", "_law_depth"] (defScope sGS) := ⟨rfl, rfl, rfl, by decide +kernel, rfl, by decide +kernel, by decide +kernel⟩
theorem c_gs {d k : Nat} (TS : TxS K mg) (T : TxL mg) (D : Dn K mg "_law_statement" sGS) (GN : C0 P w K mg base 1 "_law_next" spNext) (GW : C0 P w K mg base 1 "_law_word" (spLWord isFree))
    (G : C0 P w K mg base (k + 3) "_law_e" (spGE d)) (GE : C0 P w K mg base k "_law_e" (prevE d)) (GB : C0 P w K mg base (k + 2) "_law_body" (prevB d)) : C0 P w K mg base (k + 4) "_law_statement" (spGS d) := by
  obtain ⟨f, fd, F, m⟩ := D.ex
  refine ⟨f, fd, ["_law_deck_here", "_law_depth"], F.ok scGS (fun vs H Q E h => ?_) (fun cdv A outer s H vs Q E hr h => ?_), m, F.kp, F.binds (ps := ["_law_deck_here", "_law_depth"]) fun _ _ _ _ _ _ us hl => match us, hl with | [_, _], _ => rfl⟩
  · obtain ⟨p, l, a, b, xs, dd, rfl, _⟩ := h
    rfl
  obtain ⟨p, l, a, b, xs, dd, rfl, rfl, hd, hp1, hp2, kq⟩ := h
  refine ⟨_, pss_cons (ps_set (i := 2) scGS.nd rfl (Or.inl rfl) (pe_cc GN hr (by omega) pass0 (pa_cons (pv 0) pa_nil))) <|
    pss_cons (ps_asg (pe_op op_sub (pe_ix ix_list (pv 0) pe_int (fun _ _ => rfl)) pe_int) (pg_sub (pv 0) pe_int set_list)) <|
    pss_cons (ps_set (i := 3) scGS.nd rfl (Or.inl rfl) (pe_op op_mod (pv 2) pe_int)) <|
    pss_cons (ps_set (i := 4) scGS.nd rfl (Or.inl rfl) (pe_op op_fdiv (pv 2) pe_int)) <|
    pss_cons (ps_if (pt_cmpR op_lt (pv 3) pe_int (nomark _)) (pss_one (ps_ret (pe_tup (pa_cons pe_str (pa_cons (pe_cc GW hr (by omega) pass0 (pa_cons (pv 4) pa_nil)) (pa_cons (pe_cc G hr (by omega) pass0 (pa_cons (pv 0) (pa_cons (pv 1) pa_nil))) pa_nil)))))) pss_nil) <|
    pss_cons (ps_if (pt_cmpR op_eq (pv 3) pe_int (nomark _)) (pss_one (ps_ret (pe_tup (pa_cons pe_str (pa_cons (pe_cc GW hr (by omega) pass0 (pa_cons (pv 4) pa_nil)) (pa_cons (pe_cc G hr (by omega) pass0 (pa_cons (pv 0) (pa_cons (pv 1) pa_nil))) pa_nil)))))) pss_nil) <|
    pss_cons (ps_if (PW.pt (pw_or (pt_cmpR op_lt (pv 3) pe_int (nomark _)) (pw_or (pt_cmpR op_lt (pv 1) pe_int (nomark _)) (pw_or1 (pt_cmpR op_lt (pe_ix ix_list (pv 0) pe_int (fun _ _ => rfl)) pe_int (nomark _))))))
      (pss_one (ps_ret (pe_tup (pa_cons (pe_ix ix_list (pe_lst (pa_cons pe_str (pa_cons pe_str (pa_cons pe_str (pa_cons pe_str pa_nil))))) (pe_op op_mod (pv 4) pe_int) (fun _ _ => rfl)) (pa_cons (pe_cc G hr (by omega) pass0 (pa_cons (pv 0) (pa_cons (pv 1) pa_nil))) pa_nil))))) pss_nil) <|
    pss_cons (ps_if (pt_cmpR op_eq (pv 3) pe_int (nomark _))
      (pss_cons (ps_set (i := 5) scGS.nd rfl (Or.inl rfl) (pe_cc GE hr (by omega) pass0 (pa_cons (pv 0) (pa_cons (pe_op op_sub (pv 1) pe_int) pa_nil)))) <|
        pss_cons (ps_set (i := 6) scGS.nd rfl (Or.inl rfl) (pe_cc GB hr (by omega) pass0 (pa_cons (pv 0) (pa_cons (pe_op op_mod (pv 4) pe_int) (pa_cons (pe_op op_sub (pv 1) pe_int) pa_nil))))) <|
        pss_one (ps_ret (pe_tup (pa_cons pe_str (pa_cons (pv 5) (pa_cons (pv 6) (pa_cons (pe_cc GB hr (by omega) pass0 (pa_cons (pv 0) (pa_cons (pe_op op_mod (pe_op op_fdiv (pv 4) pe_int) pe_int) (pa_cons (pe_op op_sub (pv 1) pe_int) pa_nil)))) pa_nil))))))) pss_nil) <|
    pss_cons (ps_if (pt_cmpR op_eq (pv 3) pe_int (nomark _)) (pss_one (ps_ret (pe_tup (pa_cons pe_str (pa_cons (pe_cc GE hr (by omega) pass0 (pa_cons (pv 0) (pa_cons (pe_op op_sub (pv 1) pe_int) pa_nil))) (pa_cons (pe_cc GB hr (by omega) pass0 (pa_cons (pv 0) (pa_cons (pe_op op_mod (pv 4) pe_int) (pa_cons (pe_op op_sub (pv 1) pe_int) pa_nil)))) pa_nil)))))) pss_nil) <|
    pss_cons (ps_set (i := 6) scGS.nd rfl (Or.inl rfl) (pe_cc GB hr (by omega) pass0 (pa_cons (pv 0) (pa_cons (pe_op op_mod (pv 4) pe_int) (pa_cons (pe_op op_sub (pv 1) pe_int) pa_nil))))) <|
    pss_one (ps_ret (pe_tup (pa_cons pe_str (pa_cons (pv 6) (pa_cons (pe_cc GW hr (by omega) pass0 (pa_cons (pe_op op_fdiv (pv 4) pe_int) pa_nil)) (pa_cons (pe_cc GB hr (by omega) pass0 (pa_cons (pv 0) (pa_cons (pe_op op_mod (pe_op op_fdiv (pv 4) pe_int) pe_int) (pa_cons (pe_op op_sub (pv 1) pe_int) pa_nil)))) pa_nil)))))), ?_⟩
  have ha : a ≤ 10000 := by
    by_cases hb : 0 < b
    · have := hp1 hb; omega
    · have := hp2 (by omega); omega
  refine ⟨_, rfl, p, l, a, b, xs, rfl, hd, ha, fun n hn d1 => ?_⟩
  have s1 : SB p H (upd H p (.lst [.int ((a + 1 : Nat) : Int), .ref l, .int b])) := SB.upd _
  generalize upd H p (.lst [.int ((a + 1 : Nat) : Int), .ref l, .int b]) = H1 at d1 s1 ⊢
  refine ⟨_, rfl, p, _, _, _, rfl, rfl, SqL.of d1.1, atI_nat (j := 2) rfl, _, _, rfl, rfl, _, rfl, p, _, 2, 2, rfl, rfl, d1.1, rfl, ?_⟩
  have d2 : DeckAt (upd H1 p (.lst (([V.int ((a + 1 : Nat) : Int), .ref l, .int b] : List V).set 2 (.int (b - 1))))) p l (a + 1) (b - 1) xs := ⟨upd_same, by rw [upd_ne d1.2.2.1.symm]; exact d1.2.1, d1.2.2⟩
  have s2 : SB p H (upd H1 p (.lst (([V.int ((a + 1 : Nat) : Int), .ref l, .int b] : List V).set 2 (.int (b - 1))))) := s1.trans (SB.upd _)
  show tSeq _ _ _ _ (upd H1 p (.lst (([V.int ((a + 1 : Nat) : Int), .ref l, .int b] : List V).set 2 (.int (b - 1)))))
  generalize upd H1 p (.lst (([V.int ((a + 1 : Nat) : Int), .ref l, .int b] : List V).set 2 (.int (b - 1)))) = H2 at d2 s2 ⊢
  refine ⟨_, rfl, _, _, rfl, rfl, (by show (0 : Int) < 10; decide), ?_⟩
  refine ⟨_, rfl, _, _, rfl, rfl, ⟨by decide, by decide⟩, ?_⟩
  have pr1 : 0 < b - 1 → ((a + 1 : Nat) : Int) + (b - 1) + 10 * (d : Nat) + 1 ≤ 9000 := fun h => by
    have := hp1 (by omega)
    omega
  have pr2 : b - 1 ≤ 0 → a + 1 + 2 ≤ 9000 := fun h => by
    by_cases hb : 0 < b
    · have := hp1 hb; omega
    · have := hp2 (by omega); omega
  -- a statement of one e
  have one : ∀ (mkS : Ex → St_) (H3 : Hp), Same H2 H3 → (∀ e, nS (mkS e) = 1 + nE e ∧ oS (mkS e) = oE e) → (∀ e, okE e → okS (mkS e)) → ∀ (tupl : V → List V), (∀ e v H' q, H' q = some (.tup (tupl v)) → AtE H' e v → AtS H' (mkS e) (.ref q)) →
      ∀ e v H', SB p H3 H' → DeckAt H' p l (a + 1 + nE e) (b - 1 - nE e) xs → AtE H' e v → okE e → oE e ≤ d → (0 < b - 1 → (nE e : Int) ≤ b - 1 + 10 * d) → (b - 1 ≤ 0 → nE e = 1) → ∀ q, H' q = none → Q (.ref q) (upd H' q (.tup (tupl v))) := fun mkS H3 s3 hn1 hok tupl hat e v H' s4 d4 at4 ok4 o4 g1 g2 q hq => by
    have sr := same_new hq (.tup (tupl v))
    obtain ⟨n1, o1⟩ := hn1 e
    refine kq (mkS e) (.ref q) _ ((s2.trans (SB.same s3)).trans (s4.trans (SB.same sr))) ((d4.same sr).cast (by rw [n1]; omega) (by rw [n1]; omega)) (hat e v _ q upd_same (at4.on_ (same_tups sr))) (hok e ok4) (by rw [o1]; exact o4) (fun hb => ?_) (fun hb => ?_)
    · rw [n1]
      by_cases h1 : 0 < b - 1
      · have := g1 h1; omega
      · have := g2 (by omega); omega
    · rw [n1]
      have := g2 (by omega); omega
  refine ⟨_, rfl, _, _, rfl, rfl, _, rfl, ?_⟩
  refine ite2 (fun c => ?_) (fun c => ?_)
  · refine ⟨_, rfl, _, rfl, fun z H3 s3 gz => ?_⟩
    refine ⟨_, rfl, _, rfl, p, l, a + 1, b - 1, xs, _, rfl, rfl, d2.same s3, pr1, pr2, fun e v H' s4 d4 at4 ok4 o4 g1 g2 => ⟨by show 3 ≤ sizeLine; decide, ?_⟩⟩
    exact one (.set z) H3 s3 (fun e => ⟨rfl, rfl⟩) (fun e h => ⟨gz, h⟩) (fun v => [S_ "set", .str (mk z), v]) (fun e v H' q h1 h2 => ⟨q, v, rfl, h1, h2⟩) e v H' s4 d4 at4 ok4 o4 g1 g2
  refine ⟨_, rfl, rfl, _, rfl, ?_⟩
  refine ite2 (fun c1 => ?_) (fun c1 => ?_)
  · refine ⟨_, rfl, _, rfl, fun z H3 s3 gz => ?_⟩
    refine ⟨_, rfl, _, rfl, p, l, a + 1, b - 1, xs, _, rfl, rfl, d2.same s3, pr1, pr2, fun e v H' s4 d4 at4 ok4 o4 g1 g2 => ⟨by show 3 ≤ sizeLine; decide, ?_⟩⟩
    exact one (.sfl z) H3 s3 (fun e => ⟨rfl, rfl⟩) (fun e h => ⟨gz, h⟩) (fun v => [S_ "setfield", .str (mk z), v]) (fun e v H' q h1 h2 => ⟨q, v, rfl, h1, h2⟩) e v H' s4 d4 at4 ok4 o4 g1 g2
  refine ⟨_, rfl, _, _, rfl, rfl, _, rfl, ?_⟩
  refine (fun (key : _) => ite2 (fun c => iteT key) (fun c => ⟨_, rfl, _, _, rfl, rfl, _, rfl, ite2 (fun c2 => iteT key) (fun c2 => ⟨_, rfl, p, _, _, _, rfl, rfl, SqL.of d2.1, atI_nat (j := 2) rfl, _, _, rfl, rfl, _, rfl, ite2 (fun c3 => key) (fun c3 => ?rest)⟩)⟩)) ?key
  case key =>
    refine ⟨by show 4 ≤ sizeLine; decide, fun L hL => ?_⟩
    have s3 := same_new hL (.lst [V.str (Str.ofString "do"), V.str (Str.ofString "say"), V.str (Str.ofString "return"), V.str (Str.ofString "raise")])
    obtain ⟨z, hz, gz⟩ := pick (n := 4) (f := fun z => V.str (mk z)) (Pz := fun z => isPl z = true) rfl (by decide) (all_ok (g := isPl) (ws := ["do", "say", "return", "raise"]) (by decide +kernel)) (n / 10)
    refine ⟨_, rfl, _, _, rfl, rfl, (by show (0 : Int) < 4; decide), L, _, _, _, rfl, rfl, SqL.of upd_same, hz, ?_⟩
    refine ⟨_, rfl, _, rfl, p, l, a + 1, b - 1, xs, _, rfl, rfl, d2.same s3, pr1, pr2, fun e v H' s4 d4 at4 ok4 o4 g1 g2 => ⟨by show 2 ≤ sizeLine; decide, ?_⟩⟩
    exact one (.pl z) _ s3 (fun e => ⟨rfl, rfl⟩) (fun e h => ⟨gz, h⟩) (fun v => [.str (mk z), v]) (fun e v H' q h1 h2 => ⟨q, v, rfl, h1, h2⟩) e v H' s4 d4 at4 ok4 o4 g1 g2
  have hb1 : ¬ (b - 1 < 0) := of_decide_eq_false (Bool.eq_false_iff.mpr c3)
  have hb : 0 < b := by omega
  have hp := hp1 hb
  cases d with
  | zero => exact absurd (decide_eq_true (show (((0 : Nat) : Int)) < 1 by decide)) c2
  | succ d =>
    have ed : ((d + 1 : Nat) : Int) - 1 = ((d : Nat) : Int) := by omega
    obtain ⟨m1, em1, hm1⟩ := emod_nat (n / 10) (n := 3) (by decide)
    obtain ⟨m2, em2, hm2⟩ := emod_nat (n / 10 / 3) (n := 3) (by decide)
    obtain ⟨m3, em3, hm3⟩ := emod_nat (n / 10 / 30) (n := 3) (by decide)
    refine ⟨_, rfl, rfl, _, rfl, ?_⟩
    refine ite2 (fun c5 => ?_) (fun c5 => ?_)
    · -- an if
      refine ⟨_, rfl, _, rfl, _, _, rfl, rfl, p, l, a + 1, b - 1, xs, _, rfl, ed, d2, fun h => by omega, fun h => by omega, fun e1 v1 H5 s5 d5 at5 ok5 o5 g1 g2 => ?_⟩
      refine ⟨_, rfl, _, rfl, _, _, rfl, rfl, (by show (0 : Int) < 3; decide), _, rfl, _, _, rfl, rfl, p, l, _, _, xs, _, _, m1, rfl, ed, em1, by omega, d5, fun h => by omega, fun h => ?_, fun s1_ q1 y1 H6 s6 d6 hq1 at6 ok6 o6 g3 g4 => ?_⟩
      · by_cases h1 : 0 < b - 1
        · have := g1 h1; omega
        · have := g2 (by omega); omega
      refine ⟨_, rfl, _, rfl, _, rfl, _, rfl, _, _, rfl, rfl, ⟨by decide, by decide⟩, _, _, rfl, rfl, (by show (0 : Int) < 3; decide), _, rfl, _, _, rfl, rfl, p, l, _, _, xs, _, _, m2, rfl, ed, em2, by omega, d6, fun h => by omega, fun h => ?_, fun s2_ q2 y2 H7 s7 d7 hq2 at7 ok7 o7 g5 g6 => ?_⟩
      · by_cases h1 : 0 < b - 1
        · have := g1 h1
          by_cases h2 : 0 < b - 1 - (nE e1 : Int)
          · have := g3 h2; omega
          · have := g4 (by omega); omega
        · have := g2 (by omega)
          have := g4 (by omega)
          omega
      refine ⟨by show 4 ≤ sizeLine; decide, fun r hr2 => ?_⟩
      have sr := same_new hr2 (.tup [S_ "if", v1, .ref q1, .ref q2])
      have t6 := s6.tups d5.1
      have t7 := s7.tups d6.1
      have tr := same_tups sr
      refine kq (.iff e1 s1_ s2_) (.ref r) _ ((s2.trans s5).trans ((s6.trans s7).trans (SB.same sr))) ((d7.same sr).cast (by simp only [nS]; omega) (by simp only [nS]; omega)) ⟨r, v1, q1, y1, q2, y2, rfl, upd_same, tr _ _ (t7 _ _ hq1), tr _ _ hq2, ((at5.on_ t6).on_ t7).on_ tr, (at6.on_ t7).on_ tr, at7.on_ tr⟩ ⟨ok5, ok6, ok7⟩ (by simp only [oS]; omega) (fun _ => ?_) (fun h => by omega)
      simp only [nS]
      by_cases h1 : 0 < b - 1
      · have := g1 h1
        by_cases h2 : 0 < b - 1 - (nE e1 : Int)
        · have := g3 h2
          by_cases h3 : 0 < b - 1 - (nE e1 : Int) - (nSs s1_ : Int)
          · have := g5 h3; omega
          · have := g6 (by omega); omega
        · have := g4 (by omega)
          have := g6 (by omega)
          omega
      · have := g2 (by omega)
        have := g4 (by omega)
        have := g6 (by omega)
        omega
    refine ⟨_, rfl, rfl, _, rfl, ?_⟩
    refine ite2 (fun c6 => ?_) (fun c6 => ?_)
    · -- a while
      refine ⟨_, rfl, _, rfl, _, _, rfl, rfl, p, l, a + 1, b - 1, xs, _, rfl, ed, d2, fun h => by omega, fun h => by omega, fun e1 v1 H5 s5 d5 at5 ok5 o5 g1 g2 => ?_⟩
      refine ⟨_, rfl, _, rfl, _, _, rfl, rfl, (by show (0 : Int) < 3; decide), _, rfl, _, _, rfl, rfl, p, l, _, _, xs, _, _, m1, rfl, ed, em1, by omega, d5, fun h => by omega, fun h => ?_, fun s1_ q1 y1 H6 s6 d6 hq1 at6 ok6 o6 g3 g4 => ?_⟩
      · by_cases h1 : 0 < b - 1
        · have := g1 h1; omega
        · have := g2 (by omega); omega
      refine ⟨by show 3 ≤ sizeLine; decide, fun r hr2 => ?_⟩
      have sr := same_new hr2 (.tup [S_ "while", v1, .ref q1])
      have t6 := s6.tups d5.1
      have tr := same_tups sr
      refine kq (.whl e1 s1_) (.ref r) _ ((s2.trans s5).trans (s6.trans (SB.same sr))) ((d6.same sr).cast (by simp only [nS]; omega) (by simp only [nS]; omega)) ⟨r, v1, q1, y1, rfl, upd_same, tr _ _ hq1, (at5.on_ t6).on_ tr, at6.on_ tr⟩ ⟨ok5, ok6⟩ (by simp only [oS]; omega) (fun _ => ?_) (fun h => by omega)
      simp only [nS]
      by_cases h1 : 0 < b - 1
      · have := g1 h1
        by_cases h2 : 0 < b - 1 - (nE e1 : Int)
        · have := g3 h2; omega
        · have := g4 (by omega); omega
      · have := g2 (by omega)
        have := g4 (by omega)
        omega
    -- a try
    refine ⟨_, rfl, _, rfl, _, _, rfl, rfl, (by show (0 : Int) < 3; decide), _, rfl, _, _, rfl, rfl, p, l, _, _, xs, _, _, m1, rfl, ed, em1, by omega, d2, fun h => by omega, fun h => by omega, fun s1_ q1 y1 H6 s6 d6 hq1 at6 ok6 o6 g3 g4 => ?_⟩
    refine ⟨_, rfl, _, rfl, _, _, rfl, rfl, ⟨by decide, by decide⟩, _, rfl, fun z H3 s3 gz => ?_⟩
    refine ⟨_, rfl, _, rfl, _, _, rfl, rfl, ⟨by decide, by decide⟩, _, _, rfl, rfl, (by show (0 : Int) < 3; decide), _, rfl, _, _, rfl, rfl, p, l, _, _, xs, _, _, m3, rfl, ed, em3, by omega, d6.same s3, fun h => by omega, fun h => ?_, fun s2_ q2 y2 H7 s7 d7 hq2 at7 ok7 o7 g5 g6 => ?_⟩
    · by_cases h2 : 0 < b - 1
      · have := g3 h2; omega
      · have := g4 (by omega); omega
    refine ⟨by show 4 ≤ sizeLine; decide, fun r hr2 => ?_⟩
    have sr := same_new hr2 (.tup [S_ "try", .ref q1, .str (mk z), .ref q2])
    have t7 := (same_tups s3).trans (s7.tups (d6.same s3).1)
    have tr := same_tups sr
    refine kq (.tri s1_ z s2_) (.ref r) _ ((s2.trans s6).trans (((SB.same s3).trans s7).trans (SB.same sr))) ((d7.same sr).cast (by simp only [nS]; omega) (by simp only [nS]; omega)) ⟨r, q1, y1, q2, y2, rfl, upd_same, tr _ _ (t7 _ _ hq1), tr _ _ hq2, (at6.on_ t7).on_ tr, at7.on_ tr⟩ ⟨gz, ok6, ok7⟩ (by simp only [oS]; omega) (fun _ => ?_) (fun h => by omega)
    simp only [nS]
    by_cases h2 : 0 < b - 1
    · have := g3 h2
      by_cases h3 : 0 < b - 1 - (nSs s1_ : Int)
      · have := g5 h3; omega
      · have := g6 (by omega); omega
    · have := g4 (by omega)
      have := g6 (by omega)
      omega
end
end My
set_option Elab.async false
set_option linter.all false
set_option maxRecDepth 100000
set_option maxHeartbeats 4000000
namespace My
open PySem L2 SS
abbrev sGM : Stmt := top 18
/-! methods, kinds, mores -/
structure Me where
  m : List Nat
  ps : List (List Nat)
  ss : Sts
inductive Tr : Type
  | kind (n p : List Nat) (fs : List (List Nat)) (ms : List Me) : Tr
  | more (n : List Nat) (ms : List Me) : Tr
def AtM (H : Hp) (m : Me) (v : V) : Prop := ∃ p vw q xs, v = .ref p ∧ H p = some (.tup [S_ "method", .str (mk m.m), vw, .ref q]) ∧ AtW H m.ps vw ∧ H q = some (.tup xs) ∧ AtSs H m.ss xs
/-- a row of things in a row of values -/
def AtL {α : Type} (R : Hp → α → V → Prop) (H : Hp) : List α → List V → Prop
  | [], vs => vs = []
  | x :: r, vs => ∃ v us, vs = v :: us ∧ R H x v ∧ AtL R H r us
theorem AtL.snoc {α : Type} {R : Hp → α → V → Prop} {H : Hp} : ∀ {xs : List α} {vs : List V} {x : α} {v : V}, AtL R H xs vs → R H x v → AtL R H (xs ++ [x]) (vs ++ [v])
  | [], vs, x, v, h, hx => by
    have h' : vs = [] := h
    subst h'
    exact ⟨v, [], rfl, hx, rfl⟩
  | y :: r, vs, x, v, ⟨u, us, h1, h2, h3⟩, hx => by
    subst h1
    exact ⟨u, us ++ [v], rfl, h2, AtL.snoc h3 hx⟩
theorem AtL.on {α : Type} {R : Hp → α → V → Prop} {H H' : Hp} (t : Tups H H') (hR : ∀ x v, R H x v → R H' x v) : ∀ {xs : List α} {vs : List V}, AtL R H xs vs → AtL R H' xs vs
  | [], vs, h => h
  | y :: r, vs, ⟨u, us, h1, h2, h3⟩ => ⟨u, us, h1, hR y u h2, AtL.on t hR h3⟩
theorem AtL.len {α : Type} {R : Hp → α → V → Prop} {H : Hp} : ∀ {xs : List α} {vs : List V}, AtL R H xs vs → vs.length = xs.length
  | [], vs, h => by
    have h' : vs = [] := h
    subst h'
    rfl
  | y :: r, vs, ⟨u, us, h1, h2, h3⟩ => by
    subst h1
    rw [List.length_cons, List.length_cons, AtL.len h3]
theorem AtM.on {H H' : Hp} (t : Tups H H') {m : Me} {v : V} (h : AtM H m v) : AtM H' m v := by
  obtain ⟨p, vw, q, xs, e, h1, h2, h3, h4⟩ := h
  exact ⟨p, vw, q, xs, e, t _ _ h1, h2.on t, t _ _ h3, h4.on_ t⟩
abbrev AtMs (H : Hp) (ms : List Me) (vs : List V) : Prop := AtL AtM H ms vs
theorem AtMs.on_ {H H' : Hp} (t : Tups H H') {ms : List Me} {vs : List V} (h : AtMs H ms vs) : AtMs H' ms vs := AtL.on t (fun _ _ h => h.on t) h
def AtTr (H : Hp) : Tr → V → Prop
  | .kind n q fs ms, v => ∃ p vw r xs, v = .ref p ∧ H p = some (.tup [S_ "kind", .str (mk n), .str (mk q), vw, .ref r]) ∧ AtW H fs vw ∧ H r = some (.tup xs) ∧ AtMs H ms xs
  | .more n ms, v => ∃ p r xs, v = .ref p ∧ H p = some (.tup [S_ "more", .str (mk n), .ref r]) ∧ H r = some (.tup xs) ∧ AtMs H ms xs
theorem AtTr.on {H H' : Hp} (t : Tups H H') {x : Tr} {v : V} (h : AtTr H x v) : AtTr H' x v := by
  cases x with
  | kind n q fs ms =>
    obtain ⟨p, vw, r, xs, e, h1, h2, h3, h4⟩ := h
    exact ⟨p, vw, r, xs, e, t _ _ h1, h2.on t, t _ _ h3, h4.on_ t⟩
  | more n ms =>
    obtain ⟨p, r, xs, e, h1, h3, h4⟩ := h
    exact ⟨p, r, xs, e, t _ _ h1, t _ _ h3, h4.on_ t⟩
structure okM (m : Me) : Prop where
  fr : isFree m.m = true
  pl : m.ps.length ≤ 3
  ps : ∀ w ∈ m.ps, isFree w = true
  ss : okSs m.ss
  o : oSs m.ss ≤ 12
def Tr.ms : Tr → List Me
  | .kind _ _ _ ms => ms
  | .more _ ms => ms
structure okTr (x : Tr) : Prop where
  ml : x.ms.length ≤ 2
  ms : ∀ m ∈ x.ms, okM m
  hd : match x with
    | .kind n q fs _ => isKindName n = true ∧ isKindName q = true ∧ fs.length ≤ 3 ∧ ∀ w ∈ fs, isFree w = true
    | .more n _ => isKindName n = true
def nMs (ms : List Me) : Nat := (ms.map fun m => nSs m.ss).sum
def nTs (ts : List Tr) : Nat := (ts.map fun t => nMs t.ms).sum
def mTs (ts : List Tr) : Nat := (ts.map fun t => t.ms.length).sum
theorem nMs_snoc (ms : List Me) (m : Me) : nMs (ms ++ [m]) = nMs ms + nSs m.ss := by unfold nMs; rw [List.map_append, List.sum_append]; simp
theorem nTs_snoc (ts : List Tr) (t : Tr) : nTs (ts ++ [t]) = nTs ts + nMs t.ms := by unfold nTs; rw [List.map_append, List.sum_append]; simp
theorem mTs_snoc (ts : List Tr) (t : Tr) : mTs (ts ++ [t]) = mTs ts + t.ms.length := by unfold mTs; rw [List.map_append, List.sum_append]; simp
section
variable {P : Program} {w : World} {K : PySem.W.Frag} {mg : Str → Option Value} {base : Heap}
theorem c_noneE (k : Nat) (D : Dn K mg "_law_e" sGE) : C0 P w K mg base (k + 1) "_law_e" spF := by
  obtain ⟨f, fd, F, m⟩ := D.ex
  exact ⟨f, fd, ["_law_deck_here", "_law_depth"], F.ok scGE (fun vs H Q E h => h.elim) (fun cdv A outer s H vs Q E hr h => h.elim), m, F.kp, F.binds (ps := ["_law_deck_here", "_law_depth"]) fun _ _ _ _ _ _ us hl => match us, hl with | [_, _], _ => rfl⟩
theorem c_noneEs (k : Nat) (D : Dn K mg "_law_es" sGEs) : C0 P w K mg base (k + 1) "_law_es" spF := by
  obtain ⟨f, fd, F, m⟩ := D.ex
  exact ⟨f, fd, ["_law_deck_here", "_law_many", "_law_depth"], F.ok scGEs (fun vs H Q E h => h.elim) (fun cdv A outer s H vs Q E hr h => h.elim), m, F.kp, F.binds (ps := ["_law_deck_here", "_law_many", "_law_depth"]) fun _ _ _ _ _ _ us hl => match us, hl with | [_, _, _], _ => rfl⟩
theorem c_noneB (k : Nat) (D : Dn K mg "_law_body" sGB) : C0 P w K mg base (k + 1) "_law_body" spF := by
  obtain ⟨f, fd, F, m⟩ := D.ex
  exact ⟨f, fd, ["_law_deck_here", "_law_many", "_law_depth"], F.ok scGB (fun vs H Q E h => h.elim) (fun cdv A outer s H vs Q E hr h => h.elim), m, F.kp, F.binds (ps := ["_law_deck_here", "_law_many", "_law_depth"]) fun _ _ _ _ _ _ us hl => match us, hl with | [_, _, _], _ => rfl⟩
/-- at every depth -/
theorem gen_all (TS : TxS K mg) (T : TxL mg) (D1 : Dn K mg "_law_e" sGE) (D2 : Dn K mg "_law_es" sGEs) (D3 : Dn K mg "_law_body" sGB) (D4 : Dn K mg "_law_statement" sGS) (GN : C0 P w K mg base 1 "_law_next" spNext) (GW : C0 P w K mg base 1 "_law_word" (spLWord isFree)) (GL : C0 P w K mg base 2 "_law_leaf" spLLeaf) :
    ∀ d : Nat, C0 P w K mg base (3 * d + 4) "_law_e" (spGE d) ∧ C0 P w K mg base (3 * d + 5) "_law_es" (spGEs d) ∧ C0 P w K mg base (3 * d + 6) "_law_body" (spGB d)
  | 0 => by
    have g1 : C0 P w K mg base 4 "_law_e" (spGE 0) := c_ge (d := 0) (k := 1) (by decide) TS T D1 GN GW GL (c_noneE 0 D1) (c_noneEs 1 D2) (c_noneB 2 D3)
    have g2 : C0 P w K mg base 5 "_law_statement" (spGS 0) := c_gs (d := 0) (k := 1) TS T D4 GN GW g1 (c_noneE 0 D1) (c_noneB 2 D3)
    exact ⟨g1, c_ges TS T D2 g1, c_gb TS T D3 g2⟩
  | d + 1 => by
    obtain ⟨h1, h2, h3⟩ := gen_all TS T D1 D2 D3 D4 GN GW GL d
    have g1 : C0 P w K mg base (3 * d + 4 + 3) "_law_e" (spGE (d + 1)) := c_ge (d := d + 1) (k := 3 * d + 4) (by omega) TS T D1 GN GW GL h1 h2 h3
    have g2 : C0 P w K mg base (3 * d + 4 + 4) "_law_statement" (spGS (d + 1)) := c_gs (d := d + 1) (k := 3 * d + 4) TS T D4 GN GW g1 h1 h3
    exact ⟨g1, c_ges TS T D2 g1, c_gb TS T D3 g2⟩
def spGM (d : Nat) : Sp := fun vs H Q _ => ∃ (p l : Addr) (a : Nat) (b : Int) (xs : List Int) (dd : Int), vs = [.ref p, .int dd] ∧ dd = (d : Nat) ∧ d ≤ 12 ∧ DeckAt H p l a b xs ∧ (0 < b → (a : Int) + b + 10 * d + 12 ≤ 9000) ∧ (b ≤ 0 → a + 12 ≤ 9000) ∧
  ∀ m v H', SB p H H' → DeckAt H' p l (a + 1 + nSs m.ss) (b - nSs m.ss) xs → AtM H' m v → okM m → (0 < b → (nSs m.ss : Int) ≤ b + 10 * d + 9) → (b ≤ 0 → nSs m.ss ≤ 8) → Q v H'
theorem scGM : FnScope ["_law_deck_here", "_law_depth", "_law_draw", "_law_words", "_law_k"] ["_law_deck_here", "_law_depth"] (defScope sGM) := ⟨rfl, rfl, rfl, by decide +kernel, rfl, by decide +kernel, by decide +kernel⟩
theorem c_gm {d k : Nat} (hk : 1 ≤ k) (TS : TxS K mg) (T : TxL mg) (D : Dn K mg "_law_method" sGM) (GN : C0 P w K mg base 1 "_law_next" spNext) (GW : C0 P w K mg base 1 "_law_word" (spLWord isFree)) (GB : C0 P w K mg base k "_law_body" (spGB d)) : C0 P w K mg base (k + 1) "_law_method" (spGM d) := by
  obtain ⟨f, fd, F, m⟩ := D.ex
  refine ⟨f, fd, ["_law_deck_here", "_law_depth"], F.ok scGM (fun vs H Q E h => ?_) (fun cdv A outer s H vs Q E hr h => ?_), m, F.kp, F.binds (ps := ["_law_deck_here", "_law_depth"]) fun _ _ _ _ _ _ us hl => match us, hl with | [_, _], _ => rfl⟩
  · obtain ⟨p, l, a, b, xs, dd, rfl, _⟩ := h
    rfl
  obtain ⟨p, l, a, b, xs, dd, rfl, rfl, hd12, hd, hp1, hp2, kq⟩ := h
  refine ⟨_, pss_cons (ps_set (i := 2) scGM.nd rfl (Or.inr rfl) (pe_cc GN hr (by omega) pass0 (pa_cons (pv 0) pa_nil))) <|
    pss_cons (ps_set (i := 3) scGM.nd rfl (Or.inl rfl) (pe_callTy call_tuple_of (by rfl) TS.tup (by decide +kernel) (pa_cons (pe_lc (own := [("_law_k", 4)]) (g := gName 4) (tt := tYes) rfl scGM.nd (pi_range1 rfl T.range (pa_cons (pe_op op_mod (pe_op op_fdiv (pv 2) pe_int) pe_int) pa_nil))
      (blkOk_by (own := [("_law_k", 4)]) (N := ["_law_deck_here", "_law_depth", "_law_draw", "_law_words", "_law_k"]) (sc := defScope sGM) (by decide +kernel)) (fun _ _ _ _ _ => pg_name (i := 4) scGM.nd rfl (Or.inl rfl)) (fun _ _ _ _ _ => pts_nil)
      (fun _ _ _ _ _ => pe_cc GW hr (by omega) pass0 (pa_cons (pe_op op_add (pe_op op_fdiv (pv 2) pe_int) (pe_op op_mul pe_int (pv 4))) pa_nil))) pa_nil))) <|
    pss_one (ps_ret (pe_tup (pa_cons pe_str (pa_cons (pe_cc GW hr (by omega) pass0 (pa_cons (pv 2) pa_nil)) (pa_cons (pv 3) (pa_cons (pe_cc GB hr (by omega) pass0 (pa_cons (pv 0) (pa_cons (pe_op op_mod (pe_op op_fdiv (pv 2) pe_int) pe_int) (pa_cons (pv 1) pa_nil)))) pa_nil)))))), ?_⟩
  have ha : a ≤ 10000 := by
    by_cases hb : 0 < b
    · have := hp1 hb; omega
    · have := hp2 (by omega); omega
  refine ⟨_, rfl, p, l, a, b, xs, rfl, hd, ha, fun n hn d2 => ?_⟩
  have s2 : SB p H (upd H p (.lst [.int ((a + 1 : Nat) : Int), .ref l, .int b])) := SB.upd _
  generalize upd H p (.lst [.int ((a + 1 : Nat) : Int), .ref l, .int b]) = H2 at d2 s2 ⊢
  obtain ⟨m3, em3, hm3⟩ := emod_nat (n / 100) (n := 4) (by decide)
  refine ⟨_, rfl, _, _, rfl, rfl, ⟨by decide, by decide⟩, _, _, rfl, rfl, (by show (0 : Int) < 4; decide), ((m3 : Nat) : Int), by rw [← em3]; rfl, by omega, by omega, fun D0 hD0 => ?_⟩
  refine lc_range (lo := 0) (n := ((m3 : Nat) : Int).toNat) (fun i H3 => ∃ (ws : List (List Nat)), Same H2 H3 ∧ H3 D0 = some (.lst (wsV ws)) ∧ ws.length = i ∧ ∀ z ∈ ws, isFree z = true) ⟨[], same_new hD0 _, upd_same, rfl, fun z hz => by simp at hz⟩ ?_ ?_
  · rintro i H3 hi ⟨ws, s3, h3, hl3, hf3⟩
    have hi' : i < m3 := by omega
    refine ⟨rfl, ?_⟩
    unfold tYes
    refine iteT ?_
    refine ⟨_, rfl, _, _, rfl, rfl, ⟨by decide, by decide⟩, _, rfl, _, _, rfl, rfl, .inl ⟨by omega, by omega⟩, _, _, rfl, rfl, _, rfl, fun z H4 s4 gz => ?_⟩
    refine ⟨wsV ws, s4 _ _ h3, by unfold wsV; rw [List.length_map, sizeLine_eq]; omega, ws ++ [z], ?_, ?_, by rw [List.length_append, hl3]; rfl, fun x hx => ?_⟩
    · intro q u h
      rw [upd_ne (ne_of_none h hD0)]
      exact s4 _ _ (s3 _ _ h)
    · rw [upd_same]
      unfold wsV
      rw [List.map_append]
      rfl
    · rcases List.mem_append.mp hx with hx | hx
      · exact hf3 x hx
      · have : x = z := by simpa using hx
        rw [this]
        exact gz
  rintro H3 ⟨ws, s3, h3, hl3, hf3⟩
  refine ⟨D0, _, rfl, .inl ⟨SqL.of h3, fun tq htq => ?_⟩⟩
  have s4 := s3.trans (same_new htq (.tup (wsV ws)))
  have aw : AtW (upd H3 tq (.tup (wsV ws))) ws (.ref tq) := ⟨tq, rfl, upd_same⟩
  generalize upd H3 tq (.tup (wsV ws)) = H4 at s4 aw ⊢
  refine ⟨_, rfl, _, rfl, fun z H5 s5 gz => ?_⟩
  have s6 := s4.trans s5
  have d6 := d2.same s6
  obtain ⟨mm, emm, hmm⟩ := emod_nat (n / 400) (n := 5) (by decide)
  refine ⟨_, rfl, _, rfl, _, rfl, _, _, rfl, rfl, ⟨by decide, by decide⟩, _, _, rfl, rfl, (by show (0 : Int) < 5; decide), _, rfl, p, l, _, _, xs, _, _, mm, rfl, rfl, emm, by omega, d6, fun h => ?_, fun h => ?_, fun es q ys H7 s7 d7 hq at7 ok7 o7 g3 g4 => ?_⟩
  · have := hp1 h; omega
  · have := hp2 h; omega
  refine ⟨by show 4 ≤ sizeLine; decide, fun r hr2 => ?_⟩
  have sr := same_new hr2 (.tup [S_ "method", .str (mk z), .ref tq, .ref q])
  have t7 := ((same_tups s5).trans (s7.tups d6.1)).trans (same_tups sr)
  refine kq ⟨z, ws, es⟩ (.ref r) _ ((s2.trans (SB.same s6)).trans (s7.trans (SB.same sr))) (d7.same sr) ⟨r, _, q, ys, rfl, upd_same, aw.on t7, sr _ _ hq, at7.on_ (same_tups sr)⟩ ⟨gz, by show ws.length ≤ 3; omega, hf3, ok7, Nat.le_trans o7 hd12⟩ (fun h => ?_) (fun h => ?_)
  · have := g3 h
    show ((nSs es : Nat) : Int) ≤ _
    omega
  · have := g4 h
    show nSs es ≤ 8
    omega
end
end My
set_option Elab.async false
set_option linter.all false
set_option maxRecDepth 100000
set_option maxHeartbeats 4000000
namespace My
open PySem L2 SS
abbrev sGT : Stmt := top 19
section
variable {P : Program} {w : World} {K : PySem.W.Frag} {mg : Str → Option Value} {base : Heap}
abbrev AtTs (H : Hp) (ts : List Tr) (vs : List V) : Prop := AtL AtTr H ts vs
theorem AtTs.on_ {H H' : Hp} (t : Tups H H') {ts : List Tr} {vs : List V} (h : AtTs H ts vs) : AtTs H' ts vs := AtL.on t (fun _ _ h => h.on t) h
def spGT : Sp := fun vs H Q _ => ∃ (p l : Addr) (a : Nat) (xs : List Int) (dd : Int) (d : Nat), vs = [.ref p, .int dd] ∧ dd = (d : Nat) ∧ d ≤ 12 ∧ DeckAt H p l a 70 xs ∧ a ≤ 10 ∧
  ∀ ts q ys a' b' H', SB p H H' → DeckAt H' p l a' b' xs → a' ≤ 400 → H' q = some (.tup ys) → AtTs H' ts ys → (∀ t ∈ ts, okTr t) → ts.length ≤ 3 → nTs ts ≤ 247 → Q (.ref q) H'
theorem scGT : FnScope ["_law_deck_here", "_law_depth", "_law_found", "_law_k", "_law_draw", "_law_methods", "_law_fields", "_law_n"] ["_law_deck_here", "_law_depth"] (defScope sGT) := ⟨rfl, rfl, rfl, by decide +kernel, rfl, by decide +kernel, by decide +kernel⟩
theorem c_gt {k : Nat} (hk : 1 ≤ k) (TS : TxS K mg) (T : TxL mg) (D : Dn K mg "_law_trees" sGT) (GN : C0 P w K mg base 1 "_law_next" spNext) (GW : C0 P w K mg base 1 "_law_word" (spLWord isFree)) (GK : C0 P w K mg base 1 "_law_name" (spLWord isKindName)) (GM : ∀ d, d ≤ 12 → C0 P w K mg base k "_law_method" (spGM d)) : C0 P w K mg base (k + 1) "_law_trees" spGT := by
  obtain ⟨f, fd, F, m⟩ := D.ex
  refine ⟨f, fd, ["_law_deck_here", "_law_depth"], F.ok scGT (fun vs H Q E h => ?_) (fun cdv A outer s H vs Q E hr h => ?_), m, F.kp, F.binds (ps := ["_law_deck_here", "_law_depth"]) fun _ _ _ _ _ _ us hl => match us, hl with | [_, _], _ => rfl⟩
  · obtain ⟨p, l, a, xs, dd, d, rfl, _⟩ := h
    rfl
  obtain ⟨p, l, a, xs, dd, d, rfl, rfl, hd12, hd, ha, kq⟩ := h
  refine ⟨_, pss_cons (ps_set (i := 2) scGT.nd rfl (Or.inl rfl) (pe_lst pa_nil)) <|
    pss_cons (ps_for PassesOwn.never rfl (pi_range1 rfl T.range (pa_cons (pe_op op_add (pe_op op_mod (pe_cc GN hr (by omega) pass0 (pa_cons (pv 0) pa_nil)) pe_int) (pe_op op_mod (pe_cc GN hr (by omega) pass0 (pa_cons (pv 0) pa_nil)) pe_int)) pa_nil)) (pg_name (i := 3) scGT.nd rfl (Or.inl rfl)) <|
      pss_cons (ps_set (i := 4) scGT.nd rfl (Or.inr rfl) (pe_cc GN hr (by omega) pass0 (pa_cons (pv 0) pa_nil))) <|
      pss_cons (ps_set (i := 5) scGT.nd rfl (Or.inl rfl) (pe_callTy call_tuple_of (by rfl) TS.tup (by decide +kernel) (pa_cons (pe_lc (own := [("_law_n", 7)]) (g := gName 7) (tt := tYes) rfl scGT.nd (pi_range1 rfl T.range (pa_cons (pe_op op_mod (pe_op op_fdiv (pv 4) pe_int) pe_int) pa_nil))
        (blkOk_by (own := [("_law_n", 7)]) (N := ["_law_deck_here", "_law_depth", "_law_found", "_law_k", "_law_draw", "_law_methods", "_law_fields", "_law_n"]) (sc := defScope sGT) (by decide +kernel)) (fun _ _ _ _ _ => pg_name (i := 7) scGT.nd rfl (Or.inl rfl)) (fun _ _ _ _ _ => pts_nil)
        (fun _ _ _ _ _ => pe_cc (GM d hd12) hr (by omega) pass0 (pa_cons (pv 0) (pa_cons (pv 1) pa_nil)))) pa_nil))) <|
      pss_cons (ps_set (i := 6) scGT.nd rfl (Or.inl rfl) (pe_callTy call_tuple_of (by rfl) TS.tup (by decide +kernel) (pa_cons (pe_lc (own := [("_law_n", 7)]) (g := gName 7) (tt := tYes) rfl scGT.nd (pi_range1 rfl T.range (pa_cons (pe_op op_mod (pe_op op_fdiv (pv 4) pe_int) pe_int) pa_nil))
        (blkOk_by (own := [("_law_n", 7)]) (N := ["_law_deck_here", "_law_depth", "_law_found", "_law_k", "_law_draw", "_law_methods", "_law_fields", "_law_n"]) (sc := defScope sGT) (by decide +kernel)) (fun _ _ _ _ _ => pg_name (i := 7) scGT.nd rfl (Or.inl rfl)) (fun _ _ _ _ _ => pts_nil)
        (fun _ _ _ _ _ => pe_cc GW hr (by omega) pass0 (pa_cons (pe_op op_add (pe_op op_fdiv (pv 4) pe_int) (pv 7)) pa_nil))) pa_nil))) <|
      pss_one (ps_if (pt_cmpR op_eq (pe_op op_mod (pv 4) pe_int) pe_int (nomark _))
        (pss_one (ps_expr (pe_bm PySem.F.plainAttrs_list PySem.F.slot_list_append PySem.F.type_list_append mt_append (pv 2) (pa_cons (pe_tup (pa_cons pe_str (pa_cons (pe_cc GK hr (by omega) pass0 (pa_cons (pe_op op_fdiv (pv 4) pe_int) pa_nil)) (pa_cons (pv 5) pa_nil)))) pa_nil))))
        (pss_one (ps_expr (pe_bm PySem.F.plainAttrs_list PySem.F.slot_list_append PySem.F.type_list_append mt_append (pv 2) (pa_cons (pe_tup (pa_cons pe_str (pa_cons (pe_cc GK hr (by omega) pass0 (pa_cons (pe_op op_fdiv (pv 4) pe_int) pa_nil)) (pa_cons (pe_cc GK hr (by omega) pass0 (pa_cons (pe_op op_fdiv (pv 4) pe_int) pa_nil)) (pa_cons (pv 6) (pa_cons (pv 5) pa_nil)))))) pa_nil)))))) <|
    pss_one (ps_ret (pe_callTy call_tuple_of (by rfl) TS.tup (by decide +kernel) (pa_cons (pv 2) pa_nil))), ?_⟩
  refine ⟨Nat.zero_le _, fun Lf hLf => ?_⟩
  have hfn := hd.ne hLf
  have d1 := hd.new hLf (.lst [])
  have s1 : SB p H (upd H Lf (.lst [])) := SB.same (same_new hLf _)
  have f1 : upd H Lf (.lst []) Lf = some (.lst []) := upd_same
  generalize upd H Lf (.lst []) = H1 at d1 s1 f1 ⊢
  refine ⟨_, rfl, p, l, a, 70, xs, rfl, d1, by omega, fun n1 hn1 d2 => ?_⟩
  have s2 : SB p H (upd H1 p (.lst [.int ((a + 1 : Nat) : Int), .ref l, .int 70])) := s1.trans (SB.upd _)
  have f2 : upd H1 p (.lst [.int ((a + 1 : Nat) : Int), .ref l, .int 70]) Lf = some (.lst []) := by rw [upd_ne hfn.1]; exact f1
  generalize upd H1 p (.lst [.int ((a + 1 : Nat) : Int), .ref l, .int 70]) = H2 at d2 s2 f2 ⊢
  refine ⟨_, _, rfl, rfl, (by show (0 : Int) < 3; decide), _, rfl, p, l, a + 1, 70, xs, rfl, d2, by omega, fun n2 hn2 d3 => ?_⟩
  have s3 : SB p H (upd H2 p (.lst [.int ((a + 1 + 1 : Nat) : Int), .ref l, .int 70])) := s2.trans (SB.upd _)
  have f3 : upd H2 p (.lst [.int ((a + 1 + 1 : Nat) : Int), .ref l, .int 70]) Lf = some (.lst []) := by rw [upd_ne hfn.1]; exact f2
  generalize upd H2 p (.lst [.int ((a + 1 + 1 : Nat) : Int), .ref l, .int 70]) = H3 at d3 s3 f3 ⊢
  obtain ⟨c1, ec1, hc1⟩ := emod_nat n1 (n := 3) (by decide)
  obtain ⟨c2, ec2, hc2⟩ := emod_nat n2 (n := 2) (by decide)
  have ec : n1 % 3 + n2 % 2 = ((c1 + c2 : Nat) : Int) := by
    have e1 : n1 % 3 = ((c1 : Nat) : Int) := ec1
    have e2 : n2 % 2 = ((c2 : Nat) : Int) := ec2
    omega
  refine ⟨_, _, rfl, rfl, (by show (0 : Int) < 2; decide), _, _, rfl, rfl, ((c1 + c2 : Nat) : Int), by rw [← ec], by omega, by omega, ?_⟩
  refine for_range (lo := 0) (n := ((c1 + c2 : Nat) : Int).toNat) (fun i σ H4 => ∃ (ts : List Tr) (vs : List V) (v3 v4 v5 v6 : Option V), σ = [some (.ref p), some (.int (d : Nat)), some (.ref Lf), v3, v4, v5, v6, none] ∧ SB p H H4 ∧ DeckAt H4 p l (a + 2 + ts.length + mTs ts + nTs ts) (70 - nTs ts) xs ∧ H4 Lf = some (.lst vs) ∧ AtTs H4 ts vs ∧ (∀ t ∈ ts, okTr t) ∧ ts.length = i ∧ mTs ts ≤ 2 * i ∧ nTs ts ≤ 199 + 8 * mTs ts)
    ⟨[], [], none, none, none, none, rfl, s3, d3.cast (by rfl) (by rfl), f3, rfl, fun t ht => by simp at ht, rfl, Nat.zero_le _, Nat.zero_le _⟩ ?_ ?_
  · rintro i σ H4 hi ⟨ts, vs, v3, v4, v5, v6, rfl, s4, d4, f4, at4, ok4, l4, m4, n4⟩
    have hi' : i < 3 := by omega
    show gName 3 _ _ _ _
    refine ⟨_, rfl, p, l, _, _, xs, rfl, d4, by omega, fun dr hdr d5 => ?_⟩
    have s5 : SB p H4 (upd H4 p (.lst [.int ((a + 2 + ts.length + mTs ts + nTs ts + 1 : Nat) : Int), .ref l, .int (70 - nTs ts)])) := SB.upd _
    generalize upd H4 p (.lst [.int ((a + 2 + ts.length + mTs ts + nTs ts + 1 : Nat) : Int), .ref l, .int (70 - nTs ts)]) = H5 at d5 s5 ⊢
    obtain ⟨c3, ec3, hc3⟩ := emod_nat (dr / 36) (n := 3) (by decide)
    refine ⟨_, rfl, _, _, rfl, rfl, ⟨by decide, by decide⟩, _, _, rfl, rfl, (by show (0 : Int) < 3; decide), ((c3 : Nat) : Int), by rw [← ec3]; rfl, by omega, by omega, fun D0 hD0 => ?_⟩
    have hDn := d5.ne hD0
    refine lc_range (lo := 0) (n := ((c3 : Nat) : Int).toNat) (fun j H6 => ∃ (ms : List Me) (ys : List V), SB p H5 H6 ∧ DeckAt H6 p l (a + 2 + ts.length + mTs ts + nTs ts + 1 + ms.length + nMs ms) (70 - nTs ts - nMs ms) xs ∧ H6 D0 = some (.lst ys) ∧ AtMs H6 ms ys ∧ (∀ m ∈ ms, okM m) ∧ ms.length = j ∧ nTs ts + nMs ms ≤ 199 + 8 * (mTs ts + j))
      ⟨[], [], SB.same (same_new hD0 _), (d5.new hD0 _).cast (by rfl) (by show _ = 70 - (nTs ts : Int) - ((0 : Nat) : Int); omega), upd_same, rfl, fun t ht => by simp at ht, rfl, by show nTs ts + 0 ≤ _; omega⟩ ?_ ?_
    · rintro j H6 hj ⟨ms, ys, s6, d6, f6, at6, ok6, l6, n6⟩
      have hj' : j < c3 := by omega
      refine ⟨rfl, ?_⟩
      unfold tYes
      refine iteT ?_
      refine ⟨_, rfl, _, rfl, p, l, _, _, xs, _, rfl, rfl, hd12, d6, fun h => by omega, fun h => by omega, fun m v H7 s7 d7 at7 ok7 g1 g2 => ?_⟩
      have hf7 : H7 D0 = some (.lst ys) := s7 _ _ hDn.1 f6
      have t7 : Tups H6 (upd H7 D0 (.lst (ys ++ [v]))) := (s7.tups d6.1).trans (tups_lst hf7)
      refine ⟨ys, hf7, by rw [at6.len, l6, sizeLine_eq]; omega, ms ++ [m], ys ++ [v], ?_, ?_, upd_same, (at6.on_ t7).snoc (at7.on (tups_lst hf7)), fun x hx => ?_, by rw [List.length_append, l6]; rfl, ?_⟩
      · intro q u n h
        rw [upd_ne (ne_of_none h hD0)]
        exact s7 q u n (s6 q u n h)
      · have d8 := d7.cast (a' := a + 2 + ts.length + mTs ts + nTs ts + 1 + (ms ++ [m]).length + nMs (ms ++ [m])) (b' := 70 - (nTs ts : Int) - (nMs (ms ++ [m]) : Nat)) (by rw [nMs_snoc, List.length_append]; simp only [List.length_cons, List.length_nil]; omega) (by rw [nMs_snoc]; omega)
        exact ⟨by rw [upd_ne hDn.1.symm]; exact d8.1, by rw [upd_ne hDn.2.symm]; exact d8.2.1, d8.2.2⟩
      · rcases List.mem_append.mp hx with hx | hx
        · exact ok6 x hx
        · have : x = m := by simpa using hx
          rw [this]
          exact ok7
      · rw [nMs_snoc]
        by_cases h : 0 < 70 - (nTs ts : Int) - (nMs ms : Nat)
        · have := g1 h; omega
        · have := g2 (by omega); omega
    rintro H6 ⟨ms, ys, s6, d6, f6, at6, ok6, l6, n6⟩
    have l6' : ms.length = c3 := by omega
    refine ⟨D0, ys, rfl, .inl ⟨SqL.of f6, fun tm htm => ?_⟩⟩
    have sm := same_new htm (.tup ys)
    have d7 := d6.same sm
    have s7 : SB p H4 (upd H6 tm (.tup ys)) := (s5.trans s6).trans (SB.same sm)
    have am7 : upd H6 tm (.tup ys) tm = some (.tup ys) := upd_same
    have at7 := at6.on_ (same_tups sm)
    generalize upd H6 tm (.tup ys) = H7 at d7 s7 am7 at7 ⊢
    obtain ⟨c4, ec4, hc4⟩ := emod_nat (dr / 7) (n := 4) (by decide)
    refine ⟨_, rfl, _, _, rfl, rfl, ⟨by decide, by decide⟩, _, _, rfl, rfl, (by show (0 : Int) < 4; decide), ((c4 : Nat) : Int), by rw [← ec4]; rfl, by omega, by omega, fun D1 hD1 => ?_⟩
    refine lc_range (lo := 0) (n := ((c4 : Nat) : Int).toNat) (fun j H8 => ∃ (ws : List (List Nat)), Same H7 H8 ∧ H8 D1 = some (.lst (wsV ws)) ∧ ws.length = j ∧ ∀ z ∈ ws, isFree z = true) ⟨[], same_new hD1 _, upd_same, rfl, fun z hz => by simp at hz⟩ ?_ ?_
    · rintro j H8 hj ⟨ws, s8, h8, l8, f8⟩
      have hj' : j < c4 := by omega
      refine ⟨rfl, ?_⟩
      unfold tYes
      refine iteT ?_
      refine ⟨_, rfl, _, _, rfl, rfl, ⟨by decide, by decide⟩, _, rfl, _, _, rfl, rfl, _, rfl, fun z H9 s9 gz => ?_⟩
      refine ⟨wsV ws, s9 _ _ h8, by unfold wsV; rw [List.length_map, sizeLine_eq]; omega, ws ++ [z], ?_, ?_, by rw [List.length_append, l8]; rfl, fun x hx => ?_⟩
      · intro q u h
        rw [upd_ne (ne_of_none h hD1)]
        exact s9 _ _ (s8 _ _ h)
      · rw [upd_same]
        unfold wsV
        rw [List.map_append]
        rfl
      · rcases List.mem_append.mp hx with hx | hx
        · exact f8 x hx
        · have : x = z := by simpa using hx
          rw [this]
          exact gz
    rintro H8 ⟨ws, s8, h8, l8, f8⟩
    refine ⟨D1, _, rfl, .inl ⟨SqL.of h8, fun tq htq => ?_⟩⟩
    have s9 : Same H7 (upd H8 tq (.tup (wsV ws))) := s8.trans (same_new htq _)
    have aw : AtW (upd H8 tq (.tup (wsV ws))) ws (.ref tq) := ⟨tq, rfl, upd_same⟩
    generalize upd H8 tq (.tup (wsV ws)) = H9 at s9 aw ⊢
    have d9 := d7.same s9
    have f9 : H9 Lf = some (.lst vs) := s9 _ _ (s7 _ _ hfn.1 f4)
    -- what one tree more makes
    have fin : ∀ (t : Tr) (H10 : Hp) (r : Addr) (xs' : List V), Same H9 H10 → H10 r = none → okTr t → t.ms = ms → AtTr (upd H10 r (.tup xs')) t (.ref r) → ∀ v3 v4 v5 v6 : Option V, ∃ (ts : List Tr) (vs' : List V) (w3 w4 w5 w6 : Option V), [some (.ref p), some (.int (d : Nat)), some (.ref Lf), v3, v4, v5, v6, none] = [some (.ref p), some (.int (d : Nat)), some (.ref Lf), w3, w4, w5, w6, none] ∧ SB p H (upd (upd H10 r (.tup xs')) Lf (.lst (vs ++ [.ref r]))) ∧
        DeckAt (upd (upd H10 r (.tup xs')) Lf (.lst (vs ++ [.ref r]))) p l (a + 2 + ts.length + mTs ts + nTs ts) (70 - nTs ts) xs ∧ upd (upd H10 r (.tup xs')) Lf (.lst (vs ++ [.ref r])) Lf = some (.lst vs') ∧ AtTs (upd (upd H10 r (.tup xs')) Lf (.lst (vs ++ [.ref r]))) ts vs' ∧ (∀ t ∈ ts, okTr t) ∧ ts.length = i + 1 ∧ mTs ts ≤ 2 * (i + 1) ∧ nTs ts ≤ 199 + 8 * mTs ts := fun t H10 r xs' s10 hr10 okt etm att v3 v4 v5 v6 => by
      have s11 : Same H9 (upd H10 r (.tup xs')) := s10.trans (same_new hr10 _)
      have f11 := s11 _ _ f9
      have t11 : Tups H4 (upd (upd H10 r (.tup xs')) Lf (.lst (vs ++ [.ref r]))) := ((s7.tups d4.1).trans (same_tups (s9.trans s11))).trans (tups_lst f11)
      have d11 := (d9.same s11).cast (a' := a + 2 + (ts ++ [t]).length + mTs (ts ++ [t]) + nTs (ts ++ [t])) (b' := 70 - (nTs (ts ++ [t]) : Nat)) (by rw [mTs_snoc, nTs_snoc, etm, List.length_append]; simp only [List.length_cons, List.length_nil]; omega) (by rw [nTs_snoc, etm]; omega)
      refine ⟨ts ++ [t], vs ++ [.ref r], v3, v4, v5, v6, rfl, ?_, ⟨by rw [upd_ne hfn.1.symm]; exact d11.1, by rw [upd_ne hfn.2.symm]; exact d11.2.1, d11.2.2⟩, upd_same, (at4.on_ t11).snoc (att.on (tups_lst f11)), fun x hx => ?_, by rw [List.length_append, l4]; rfl, by rw [mTs_snoc, etm]; omega, by rw [mTs_snoc, nTs_snoc, etm]; omega⟩
      · intro q u n h
        rw [upd_ne (ne_of_none h hLf)]
        exact s11 _ _ (s9 _ _ (s7 q u n (s4 q u n h)))
      · rcases List.mem_append.mp hx with hx | hx
        · exact ok4 x hx
        · have : x = t := by simpa using hx
          rw [this]
          exact okt
    refine ⟨_, rfl, _, _, rfl, rfl, (by show (0 : Int) < 3; decide), rfl, _, rfl, ?_⟩
    refine ite2 (fun c => ?_) (fun c => ?_)
    · refine ⟨_, rfl, .inl ⟨rfl, _, SqL.of f9⟩, _, rfl, _, _, rfl, rfl, ⟨by decide, by decide⟩, _, rfl, fun z H10 s10 gz => ?_⟩
      refine ⟨_, rfl, by show 3 ≤ sizeLine; decide, fun r hr10 => ?_⟩
      have sr := same_new hr10 (.tup [S_ "more", .str (mk z), .ref tm])
      refine ⟨Lf, vs, .ref r, rfl, rfl, sr _ _ (s10 _ _ f9), by rw [at4.len, l4, sizeLine_eq]; omega, ?_⟩
      exact fin (.more z ms) H10 r _ s10 hr10 ⟨by show ms.length ≤ 2; omega, ok6, gz⟩ rfl ⟨r, tm, ys, rfl, upd_same, sr _ _ (s10 _ _ (s9 _ _ am7)), at7.on_ (same_tups (s9.trans (s10.trans sr)))⟩ _ _ _ _
    · refine ⟨_, rfl, .inl ⟨rfl, _, SqL.of f9⟩, _, rfl, _, _, rfl, rfl, ⟨by decide, by decide⟩, _, rfl, fun z H10 s10 gz => ?_⟩
      refine ⟨_, rfl, _, _, rfl, rfl, ⟨by decide, by decide⟩, _, rfl, fun z2 H11 s11 gz2 => ?_⟩
      refine ⟨_, rfl, _, rfl, by show 5 ≤ sizeLine; decide, fun r hr10 => ?_⟩
      have sr := same_new hr10 (.tup [S_ "kind", .str (mk z), .str (mk z2), .ref tq, .ref tm])
      refine ⟨Lf, vs, .ref r, rfl, rfl, sr _ _ (s11 _ _ (s10 _ _ f9)), by rw [at4.len, l4, sizeLine_eq]; omega, ?_⟩
      exact fin (.kind z z2 ws ms) H11 r _ (s10.trans s11) hr10 ⟨by show ms.length ≤ 2; omega, ok6, gz, gz2, by omega, f8⟩ rfl ⟨r, _, tm, ys, rfl, upd_same, aw.on (same_tups (s10.trans (s11.trans sr))), sr _ _ (s11 _ _ (s10 _ _ (s9 _ _ am7))), at7.on_ (same_tups (s9.trans (s10.trans (s11.trans sr))))⟩ _ _ _ _
  · rintro σ H4 ⟨ts, vs, v3, v4, v5, v6, rfl, s4, d4, f4, at4, ok4, l4, m4, n4⟩
    have l4' : ts.length = c1 + c2 := by omega
    refine ⟨_, rfl, Lf, vs, rfl, .inl ⟨SqL.of f4, fun q hq => ?_⟩⟩
    have sq := same_new hq (.tup vs)
    exact kq ts q vs _ _ _ (s4.trans (SB.same sq)) (d4.same sq) (by omega) upd_same (at4.on_ (same_tups sq)) ok4 (by omega) (by omega)
end
end My
set_option Elab.async false
set_option linter.all false
set_option maxRecDepth 100000
set_option maxHeartbeats 4000000
namespace My
open PySem L2 SS
/-! ### nodes: es and statements alike -/
inductive Nd : Type
  | e (x : Ex) : Nd
  | s (x : St_) : Nd
def exl : Exs → List Nd
  | .nil => []
  | .cons e r => .e e :: exl r
def stl : Sts → List Nd
  | .nil => []
  | .cons s r => .s s :: stl r
def parts : Nd → List Nd
  | .e (.send r _ es) => .e r :: exl es
  | .e (.up _ es) => exl es
  | .e (.lst es) => exl es
  | .e (.blk _ ss) => stl ss
  | .e _ => []
  | .s (.set _ e) => [.e e]
  | .s (.sfl _ e) => [.e e]
  | .s (.pl _ e) => [.e e]
  | .s (.iff e a b) => .e e :: (stl a ++ stl b)
  | .s (.whl e a) => .e e :: stl a
  | .s (.tri a _ b) => stl a ++ stl b
def isBlk : Nd → Bool
  | .e (.blk _ _) => true
  | _ => false
def hN : Nd → Nat
  | .e x => 2 * oE x + 1
  | .s x => 2 * oS x + 2
def nN : Nd → Nat
  | .e x => nE x
  | .s x => nS x
def okN : Nd → Prop
  | .e x => okE x
  | .s x => okS x
def AtN (H : Hp) : Nd → V → Prop
  | .e x, v => AtE H x v
  | .s x, v => AtS H x v
theorem AtN.on {H H' : Hp} (t : Tups H H') {n : Nd} {v : V} (h : AtN H n v) : AtN H' n v := by
  cases n with
  | e x => exact AtE.on t x v h
  | s x => exact AtS.on t x v h
theorem atl_exl {H : Hp} : ∀ {es : Exs} {xs : List V}, AtEs H es xs → AtL AtN H (exl es) xs
  | .nil, xs, h => h
  | .cons e r, xs, ⟨v, vs, h1, h2, h3⟩ => ⟨v, vs, h1, h2, atl_exl h3⟩
theorem atl_stl {H : Hp} : ∀ {ss : Sts} {xs : List V}, AtSs H ss xs → AtL AtN H (stl ss) xs
  | .nil, xs, h => h
  | .cons e r, xs, ⟨v, vs, h1, h2, h3⟩ => ⟨v, vs, h1, h2, atl_stl h3⟩
theorem AtL.get {α : Type} {R : Hp → α → V → Prop} {H : Hp} : ∀ {xs : List α} {vs : List V} {i : Nat} {v : V}, AtL R H xs vs → vs[i]? = some v → ∃ x, xs[i]? = some x ∧ R H x v
  | [], vs, i, v, h, hv => by
    have h' : vs = [] := h
    subst h'
    simp at hv
  | y :: r, vs, 0, v, ⟨u, us, h1, h2, h3⟩, hv => by
    subst h1
    simp at hv
    subst hv
    exact ⟨y, rfl, h2⟩
  | y :: r, vs, i + 1, v, ⟨u, us, h1, h2, h3⟩, hv => by
    subst h1
    obtain ⟨x, g1, g2⟩ := AtL.get (i := i) h3 (by simpa using hv)
    exact ⟨x, by simpa using g1, g2⟩
theorem AtL.get' {α : Type} {R : Hp → α → V → Prop} {H : Hp} : ∀ {xs : List α} {vs : List V} {i : Nat} {x : α}, AtL R H xs vs → xs[i]? = some x → ∃ v, vs[i]? = some v ∧ R H x v
  | [], vs, i, x, h, hx => by simp at hx
  | y :: r, vs, 0, x, ⟨u, us, h1, h2, h3⟩, hx => by
    subst h1
    simp at hx
    subst hx
    exact ⟨u, rfl, h2⟩
  | y :: r, vs, i + 1, x, ⟨u, us, h1, h2, h3⟩, hx => by
    subst h1
    obtain ⟨v, g1, g2⟩ := AtL.get' (i := i) h3 (by simpa using hx)
    exact ⟨v, by simpa using g1, g2⟩
theorem atl_app {α : Type} {R : Hp → α → V → Prop} {H : Hp} : ∀ {a b : List α} {xs ys : List V}, AtL R H a xs → AtL R H b ys → AtL R H (a ++ b) (xs ++ ys)
  | [], b, xs, ys, h, g => by
    have h' : xs = [] := h
    subst h'
    exact g
  | q :: r, b, xs, ys, ⟨v, ws, h1, h2, h3⟩, g => by
    subst h1
    exact ⟨v, ws ++ ys, rfl, h2, atl_app h3 g⟩
theorem exl_h : ∀ (es : Exs) (q : Nd), q ∈ exl es → ∃ x, q = .e x ∧ oE x ≤ oEs es ∧ (okEs es → okE x)
  | .nil, q, h => by simp [exl] at h
  | .cons e r, q, h => by
    have ho : oEs (.cons e r) = max (oE e) (oEs r) := rfl
    rcases List.mem_cons.mp h with rfl | h
    · exact ⟨e, rfl, by omega, fun k => k.1⟩
    · obtain ⟨x, h1, h2, h3⟩ := exl_h r q h
      exact ⟨x, h1, by omega, fun k => h3 k.2⟩
theorem stl_h : ∀ (ss : Sts) (q : Nd), q ∈ stl ss → ∃ x, q = .s x ∧ oS x ≤ oSs ss ∧ (okSs ss → okS x)
  | .nil, q, h => by simp [stl] at h
  | .cons e r, q, h => by
    have ho : oSs (.cons e r) = max (oS e) (oSs r) := rfl
    rcases List.mem_cons.mp h with rfl | h
    · exact ⟨e, rfl, by omega, fun k => k.1⟩
    · obtain ⟨x, h1, h2, h3⟩ := stl_h r q h
      exact ⟨x, h1, by omega, fun k => h3 k.2⟩
/-- a part is lower than its whole, and right where it is -/
theorem parts_h (n q : Nd) (h : q ∈ parts n) : hN q < hN n ∧ (okN n → okN q) := by
  cases n with
  | e x =>
    cases x with
    | send r m es =>
      have ho : oE (.send r m es) = 1 + max (oE r) (oEs es) := rfl
      rcases List.mem_cons.mp h with rfl | h
      · exact ⟨by show 2 * oE r + 1 < 2 * oE (.send r m es) + 1; omega, fun k => k.2.1⟩
      · obtain ⟨y, rfl, h2, h3⟩ := exl_h es q h
        exact ⟨by show 2 * oE y + 1 < 2 * oE (.send r m es) + 1; omega, fun k => h3 k.2.2⟩
    | up m es =>
      have ho : oE (.up m es) = 1 + oEs es := rfl
      obtain ⟨y, rfl, h2, h3⟩ := exl_h es q h
      exact ⟨by show 2 * oE y + 1 < 2 * oE (.up m es) + 1; omega, fun k => h3 k.2⟩
    | lst es =>
      have ho : oE (.lst es) = 1 + oEs es := rfl
      obtain ⟨y, rfl, h2, h3⟩ := exl_h es q h
      exact ⟨by show 2 * oE y + 1 < 2 * oE (.lst es) + 1; omega, fun k => h3 k⟩
    | blk ps ss =>
      have ho : oE (.blk ps ss) = 1 + oSs ss := rfl
      obtain ⟨y, rfl, h2, h3⟩ := stl_h ss q h
      exact ⟨by show 2 * oS y + 2 < 2 * oE (.blk ps ss) + 1; omega, fun k => h3 k.2.2⟩
    | _ => simp [parts] at h
  | s x =>
    cases x with
    | set w e =>
      obtain rfl : q = .e e := by simpa [parts] using h
      exact ⟨by show 2 * oE e + 1 < 2 * oE e + 2; omega, fun k => k.2⟩
    | sfl w e =>
      obtain rfl : q = .e e := by simpa [parts] using h
      exact ⟨by show 2 * oE e + 1 < 2 * oE e + 2; omega, fun k => k.2⟩
    | pl w e =>
      obtain rfl : q = .e e := by simpa [parts] using h
      exact ⟨by show 2 * oE e + 1 < 2 * oE e + 2; omega, fun k => k.2⟩
    | iff e a b =>
      have ho : oS (.iff e a b) = 1 + max (oE e) (max (oSs a) (oSs b)) := rfl
      rcases List.mem_cons.mp h with rfl | h
      · exact ⟨by show 2 * oE e + 1 < 2 * oS (.iff e a b) + 2; omega, fun k => k.1⟩
      · rcases List.mem_append.mp h with h | h
        · obtain ⟨y, rfl, h2, h3⟩ := stl_h a q h
          exact ⟨by show 2 * oS y + 2 < 2 * oS (.iff e a b) + 2; omega, fun k => h3 k.2.1⟩
        · obtain ⟨y, rfl, h2, h3⟩ := stl_h b q h
          exact ⟨by show 2 * oS y + 2 < 2 * oS (.iff e a b) + 2; omega, fun k => h3 k.2.2⟩
    | whl e a =>
      have ho : oS (.whl e a) = 1 + max (oE e) (oSs a) := rfl
      rcases List.mem_cons.mp h with rfl | h
      · exact ⟨by show 2 * oE e + 1 < 2 * oS (.whl e a) + 2; omega, fun k => k.1⟩
      · obtain ⟨y, rfl, h2, h3⟩ := stl_h a q h
        exact ⟨by show 2 * oS y + 2 < 2 * oS (.whl e a) + 2; omega, fun k => h3 k.2⟩
    | tri a w b =>
      have ho : oS (.tri a w b) = 1 + max (oSs a) (oSs b) := rfl
      rcases List.mem_append.mp h with h | h
      · obtain ⟨y, rfl, h2, h3⟩ := stl_h a q h
        exact ⟨by show 2 * oS y + 2 < 2 * oS (.tri a w b) + 2; omega, fun k => h3 k.2.1⟩
      · obtain ⟨y, rfl, h2, h3⟩ := stl_h b q h
        exact ⟨by show 2 * oS y + 2 < 2 * oS (.tri a w b) + 2; omega, fun k => h3 k.2.2⟩
/-! in the order of the text, each with the code in which it stands -/
def goneH : Nat → Nd → Int → Nat → List (Nd × Int)
  | 0, _, _, _ => []
  | h + 1, n, c, a => (n, c) :: (parts n).foldl (fun acc q => acc ++ goneH h q (if isBlk n = true then ((a : Nat) : Int) else c) (a + 1 + acc.length)) []
def goneL (h : Nat) (qs : List Nd) (c : Int) (a : Nat) : List (Nd × Int) := qs.foldl (fun acc q => acc ++ goneH h q c (a + acc.length)) []
theorem goneH_succ (h : Nat) (n : Nd) (c : Int) (a : Nat) : goneH (h + 1) n c a = (n, c) :: goneL h (parts n) (if isBlk n = true then ((a : Nat) : Int) else c) (a + 1) := rfl
theorem goneL_snoc (h : Nat) (qs : List Nd) (q : Nd) (c : Int) (a : Nat) : goneL h (qs ++ [q]) c a = goneL h qs c a ++ goneH h q c (a + (goneL h qs c a).length) := by
  unfold goneL
  rw [List.foldl_append]
  rfl
theorem hN_pos (n : Nd) : 1 ≤ hN n := by
  cases n with
  | e x => show 1 ≤ 2 * oE x + 1; omega
  | s x => show 1 ≤ 2 * oS x + 2; omega
/-- with enough room it is always the same -/
theorem goneH_eq : ∀ (h k : Nat) (n : Nd) (c : Int) (a : Nat), hN n ≤ h → hN n ≤ k → goneH h n c a = goneH k n c a
  | 0, k, n, c, a, h1, _ => by have := hN_pos n; omega
  | h + 1, 0, n, c, a, _, h2 => by have := hN_pos n; omega
  | h + 1, k + 1, n, c, a, h1, h2 => by
    rw [goneH_succ, goneH_succ]
    have key : ∀ (qs : List Nd) (c : Int) (a : Nat), (∀ q ∈ qs, hN q < hN n) → goneL h qs c a = goneL k qs c a := fun qs c a hq => by
      unfold goneL
      have gen : ∀ (qs : List Nd) (acc : List (Nd × Int)), (∀ q ∈ qs, hN q < hN n) → qs.foldl (fun acc q => acc ++ goneH h q c (a + acc.length)) acc = qs.foldl (fun acc q => acc ++ goneH k q c (a + acc.length)) acc := fun qs => by
        induction qs with
        | nil => intro acc _; rfl
        | cons q r ih =>
          intro acc hr
          have hq := hr q List.mem_cons_self
          rw [List.foldl_cons, List.foldl_cons, goneH_eq h k q c _ (by omega) (by omega)]
          exact ih _ fun x hx => hr x (List.mem_cons_of_mem _ hx)
      exact gen qs [] hq
    rw [key _ _ _ fun q hq => (parts_h n q hq).1]
end My
set_option Elab.async false
set_option linter.all false
set_option maxRecDepth 100000
set_option maxHeartbeats 4000000
namespace My
open PySem L2 SS
theorem mem_small {c : Nat} : c ∈ SMALL ↔ 97 ≤ c ∧ c ≤ 122 := by
  unfold SMALL
  simp only [List.mem_map, List.mem_range]
  constructor
  · rintro ⟨x, h1, h2⟩; omega
  · rintro ⟨h1, h2⟩; exact ⟨c - 97, by omega, by omega⟩
theorem mem_caps {c : Nat} : c ∈ CAPS ↔ 65 ≤ c ∧ c ≤ 90 := by
  unfold CAPS
  simp only [List.mem_map, List.mem_range]
  constructor
  · rintro ⟨x, h1, h2⟩; omega
  · rintro ⟨h1, h2⟩; exact ⟨c - 65, by omega, by omega⟩
theorem mem_figs {c : Nat} : c ∈ FIGS ↔ 48 ≤ c ∧ c ≤ 57 := by
  unfold FIGS
  simp only [List.mem_map, List.mem_range]
  constructor
  · rintro ⟨x, h1, h2⟩; omega
  · rintro ⟨h1, h2⟩; exact ⟨c - 48, by omega, by omega⟩
def Sg (c : Nat) : Prop := (48 ≤ c ∧ c ≤ 57) ∨ (65 ≤ c ∧ c ≤ 90) ∨ (97 ≤ c ∧ c ≤ 122) ∨ c = 95 ∨ c = 64 ∨ c = 39 ∨ c = 45
theorem name_sg {w first others : T} (h : isName w first others = true) (ho : ∀ c ∈ others, Sg c) : w ≠ [] ∧ w.length ≤ 12 ∧ (∀ c ∈ w, Sg c) ∧ w.getD 0 0 ∈ first := by
  unfold isName at h
  simp only [Bool.and_eq_true, decide_eq_true_eq] at h
  obtain ⟨⟨h1, h2⟩, h3, h4⟩ := h
  refine ⟨fun e => by rw [e] at h1; simp at h1, h2, fun c hc => ?_, h3⟩
  unfold hasOnly at h4
  exact ho c (of_decide_eq_true (List.all_eq_true.mp h4 c hc))
theorem sg_small {c : Nat} (h : c ∈ SMALL ++ FIGS) : Sg c := by
  rcases List.mem_append.mp h with h | h
  · have := mem_small.mp h; unfold Sg; omega
  · have := mem_figs.mp h; unfold Sg; omega
theorem sg_kind {c : Nat} (h : c ∈ SMALL ++ CAPS ++ FIGS) : Sg c := by
  rcases List.mem_append.mp h with h | h
  · rcases List.mem_append.mp h with h | h
    · have := mem_small.mp h; unfold Sg; omega
    · have := mem_caps.mp h; unfold Sg; omega
  · have := mem_figs.mp h; unfold Sg; omega
theorem sg_text {c : Nat} (h : c ∈ TEXTS) : Sg c := by
  unfold TEXTS at h
  rcases List.mem_append.mp h with h | h
  · exact sg_kind h
  · obtain rfl : c = 95 := by simpa using h
    unfold Sg; omega
theorem small_facts {w : T} (h : isSmall w = true) : w ≠ [] ∧ w.length ≤ 12 ∧ (∀ c ∈ w, Sg c) ∧ ∃ c r, w = c :: r ∧ 97 ≤ c ∧ c ≤ 122 := by
  obtain ⟨h1, h2, h3, h4⟩ := name_sg h fun c hc => sg_small hc
  refine ⟨h1, h2, h3, ?_⟩
  cases w with
  | nil => exact absurd rfl h1
  | cons c r => exact ⟨c, r, rfl, mem_small.mp h4⟩
theorem free_small {w : T} (h : isFree w = true) : isSmall w = true := by
  unfold isFree at h
  rw [Bool.and_eq_true, Bool.and_eq_true] at h
  exact h.1.1
theorem kind_facts {w : T} (h : isKindName w = true) : w ≠ [] ∧ w.length ≤ 12 ∧ (∀ c ∈ w, Sg c) ∧ ∃ c r, w = c :: r ∧ 65 ≤ c ∧ c ≤ 90 := by
  obtain ⟨h1, h2, h3, h4⟩ := name_sg h fun c hc => sg_kind hc
  refine ⟨h1, h2, h3, ?_⟩
  cases w with
  | nil => exact absurd rfl h1
  | cons c r => exact ⟨c, r, rfl, mem_caps.mp h4⟩
theorem text_facts {w : T} (h : isText w = true) : w.length ≤ 40 ∧ ∀ c ∈ w, Sg c := by
  unfold isText at h
  simp only [Bool.and_eq_true, decide_eq_true_eq] at h
  refine ⟨h.1, fun c hc => ?_⟩
  have h4 := h.2
  unfold hasOnly at h4
  exact sg_text (of_decide_eq_true (List.all_eq_true.mp h4 c hc))
theorem pl_cases {k : T} (h : isPl k = true) : k = tk "do" ∨ k = tk "say" ∨ k = tk "return" ∨ k = tk "raise" := by
  unfold isPl inS at h
  have e : ∀ z : Str, (z == mk k) = true → k = tl z := fun z hz => by rw [eq_of_beq hz]
  simp only [List.any_cons, List.any_nil, Bool.or_false, Bool.or_eq_true] at h
  rcases h with h | h | h | h
  · exact .inl (e _ h)
  · exact .inr (.inl (e _ h))
  · exact .inr (.inr (.inl (e _ h)))
  · exact .inr (.inr (.inr (e _ h)))
theorem pl_cases_ {k : T} (h : isPl k = true) : k = tk "do" ∨ k = tk "say" ∨ k = tk "return" ∨ k = tk "raise" := pl_cases h
theorem dp_all {α : Type} {K : PySem.W.Frag} {H : Hp} {R : Hp → α → V → Prop} {f : α → PyData} (h : ∀ x v, R H x v → Dp K H v (f x)) : ∀ {xs : List α} {vs : List V}, AtL R H xs vs → DpAll K H vs (xs.map f)
  | [], vs, e => by
    have e' : vs = [] := e
    subst e'
    exact .nil
  | x :: r, vs, ⟨v, us, e, h1, h2⟩ => by
    subst e
    exact .cons (h x v h1) (dp_all h h2)
theorem lay_all {α : Type} {f : α → PyData} {n : Nat} : ∀ xs : List α, (∀ x ∈ xs, (f x).canLay0 = true ∧ (f x).depth ≤ n) → PyData.canLayAll0 (xs.map f) = true ∧ PyData.depthAll (xs.map f) ≤ n
  | [], _ => ⟨rfl, Nat.zero_le _⟩
  | x :: r, h => by
    obtain ⟨h1, h2⟩ := h x List.mem_cons_self
    obtain ⟨h3, h4⟩ := lay_all r fun y hy => h y (List.mem_cons_of_mem _ hy)
    refine ⟨?_, ?_⟩
    · rw [List.map_cons, PyData.canLayAll0, h1, h3]
      rfl
    · rw [List.map_cons, PyData.depthAll]
      exact Nat.max_le.mpr ⟨h2, h4⟩
theorem shaped_of {d : PyData} (h1 : d.canLay0 = true) (h2 : d.depth ≤ 64) : SeqAt.shaped d = true := by
  unfold SeqAt.shaped
  rw [h1, decide_eq_true h2]
  rfl
theorem ne_same {K : PySem.W.Frag} {H : Hp} {x y : V} {d : PyData} {Q : VK} (h1 : Dp K H x d) (h2 : Dp K H y d) (c : d.canLay0 = true) (dp : d.depth ≤ 64) (q : Q (.bl false) H) : rNeD K x y H Q := by
  refine ⟨d, d, h1, h2, shaped_of c dp, shaped_of c dp, ?_⟩
  rw [SeqAt.eqv_refl d c]
  exact q
/-! ### trees as data -/
abbrev dS_ (s : String) : PyData := .str (Str.ofString s)
def dW (ws : List T) : PyData := .tuple (ws.map fun w => .str (mk w))
mutual
def dE : Ex → PyData
  | .num n => .tuple [dS_ "number", .int n]
  | .txt s => .tuple [dS_ "text", .str (mk s)]
  | .tru b => .tuple [dS_ "truth", .bool b]
  | .non => .tuple [dS_ "none"]
  | .slf => .tuple [dS_ "self"]
  | .nam w => .tuple [dS_ "name", .str (mk w)]
  | .fld w => .tuple [dS_ "field", .str (mk w)]
  | .new w => .tuple [dS_ "new", .str (mk w)]
  | .send r m es => .tuple [dS_ "send", dE r, .str (mk m), .tuple (dEs es)]
  | .up m es => .tuple [dS_ "up", .str (mk m), .tuple (dEs es)]
  | .lst es => .tuple [dS_ "list", .tuple (dEs es)]
  | .blk ps ss => .tuple [dS_ "block", dW ps, .tuple (dSs ss)]
def dEs : Exs → List PyData
  | .nil => []
  | .cons e r => dE e :: dEs r
def dS : St_ → PyData
  | .set w e => .tuple [dS_ "set", .str (mk w), dE e]
  | .sfl w e => .tuple [dS_ "setfield", .str (mk w), dE e]
  | .pl k e => .tuple [.str (mk k), dE e]
  | .iff e a b => .tuple [dS_ "if", dE e, .tuple (dSs a), .tuple (dSs b)]
  | .whl e a => .tuple [dS_ "while", dE e, .tuple (dSs a)]
  | .tri a w b => .tuple [dS_ "try", .tuple (dSs a), .str (mk w), .tuple (dSs b)]
def dSs : Sts → List PyData
  | .nil => []
  | .cons s r => dS s :: dSs r
end
section
variable {K : PySem.W.Frag} {H : Hp}
theorem dp_w {ws : List T} {v : V} (h : AtW H ws v) : Dp K H v (dW ws) := by
  obtain ⟨p, rfl, h⟩ := h
  refine .tup (SqT.of h) ?_
  clear h
  induction ws with
  | nil => exact .nil
  | cons w r ih => exact .cons (.str _) ih
mutual
theorem dpE : ∀ (e : Ex) (v : V), AtE H e v → Dp K H v (dE e)
  | .num n, v, ⟨p, e, h⟩ => e ▸ .tup (SqT.of h) (.cons (.str _) (.cons (.int _) .nil))
  | .txt s, v, ⟨p, e, h⟩ => e ▸ .tup (SqT.of h) (.cons (.str _) (.cons (.str _) .nil))
  | .tru b, v, ⟨p, e, h⟩ => e ▸ .tup (SqT.of h) (.cons (.str _) (.cons (.bl _) .nil))
  | .non, v, ⟨p, e, h⟩ => e ▸ .tup (SqT.of h) (.cons (.str _) .nil)
  | .slf, v, ⟨p, e, h⟩ => e ▸ .tup (SqT.of h) (.cons (.str _) .nil)
  | .nam w, v, ⟨p, e, h⟩ => e ▸ .tup (SqT.of h) (.cons (.str _) (.cons (.str _) .nil))
  | .fld w, v, ⟨p, e, h⟩ => e ▸ .tup (SqT.of h) (.cons (.str _) (.cons (.str _) .nil))
  | .new w, v, ⟨p, e, h⟩ => e ▸ .tup (SqT.of h) (.cons (.str _) (.cons (.str _) .nil))
  | .send r m es, v, ⟨p, vr, q, xs, e, h1, h2, h3, h4⟩ => e ▸ .tup (SqT.of h1) (.cons (.str _) (.cons (dpE r vr h3) (.cons (.str _) (.cons (.tup (SqT.of h2) (dpEs es xs h4)) .nil))))
  | .up m es, v, ⟨p, q, xs, e, h1, h2, h4⟩ => e ▸ .tup (SqT.of h1) (.cons (.str _) (.cons (.str _) (.cons (.tup (SqT.of h2) (dpEs es xs h4)) .nil)))
  | .lst es, v, ⟨p, q, xs, e, h1, h2, h4⟩ => e ▸ .tup (SqT.of h1) (.cons (.str _) (.cons (.tup (SqT.of h2) (dpEs es xs h4)) .nil))
  | .blk ps ss, v, ⟨p, vw, q, xs, e, h1, h2, h3, h4⟩ => e ▸ .tup (SqT.of h1) (.cons (.str _) (.cons (dp_w h3) (.cons (.tup (SqT.of h2) (dpSs ss xs h4)) .nil)))
theorem dpEs : ∀ (e : Exs) (v : List V), AtEs H e v → DpAll K H v (dEs e)
  | .nil, xs, h => (show xs = [] from h) ▸ .nil
  | .cons e r, xs, ⟨v, vs, h1, h2, h3⟩ => h1 ▸ .cons (dpE e v h2) (dpEs r vs h3)
theorem dpS : ∀ (s : St_) (v : V), AtS H s v → Dp K H v (dS s)
  | .set w e, v, ⟨p, ve, h1, h2, h3⟩ => h1 ▸ .tup (SqT.of h2) (.cons (.str _) (.cons (.str _) (.cons (dpE e ve h3) .nil)))
  | .sfl w e, v, ⟨p, ve, h1, h2, h3⟩ => h1 ▸ .tup (SqT.of h2) (.cons (.str _) (.cons (.str _) (.cons (dpE e ve h3) .nil)))
  | .pl k e, v, ⟨p, ve, h1, h2, h3⟩ => h1 ▸ .tup (SqT.of h2) (.cons (.str _) (.cons (dpE e ve h3) .nil))
  | .iff e a b, v, ⟨p, ve, q, xs, r, ys, h1, h2, h3, h4, h5, h6, h7⟩ => h1 ▸ .tup (SqT.of h2) (.cons (.str _) (.cons (dpE e ve h5) (.cons (.tup (SqT.of h3) (dpSs a xs h6)) (.cons (.tup (SqT.of h4) (dpSs b ys h7)) .nil))))
  | .whl e a, v, ⟨p, ve, q, xs, h1, h2, h3, h5, h6⟩ => h1 ▸ .tup (SqT.of h2) (.cons (.str _) (.cons (dpE e ve h5) (.cons (.tup (SqT.of h3) (dpSs a xs h6)) .nil)))
  | .tri a w b, v, ⟨p, q, xs, r, ys, h1, h2, h3, h4, h6, h7⟩ => h1 ▸ .tup (SqT.of h2) (.cons (.str _) (.cons (.tup (SqT.of h3) (dpSs a xs h6)) (.cons (.str _) (.cons (.tup (SqT.of h4) (dpSs b ys h7)) .nil))))
theorem dpSs : ∀ (e : Sts) (v : List V), AtSs H e v → DpAll K H v (dSs e)
  | .nil, xs, h => (show xs = [] from h) ▸ .nil
  | .cons e r, xs, ⟨v, vs, h1, h2, h3⟩ => h1 ▸ .cons (dpS e v h2) (dpSs r vs h3)
end
def dM (m : Me) : PyData := .tuple [dS_ "method", .str (mk m.m), dW m.ps, .tuple (dSs m.ss)]
theorem dpM {m : Me} {v : V} (h : AtM H m v) : Dp K H v (dM m) := by
  obtain ⟨p, vw, q, xs, rfl, h1, h2, h3, h4⟩ := h
  exact .tup (SqT.of h1) (.cons (.str _) (.cons (.str _) (.cons (dp_w h2) (.cons (.tup (SqT.of h3) (dpSs m.ss xs h4)) .nil))))
def dTr : Tr → PyData
  | .kind n p fs ms => .tuple [dS_ "kind", .str (mk n), .str (mk p), dW fs, .tuple (ms.map dM)]
  | .more n ms => .tuple [dS_ "more", .str (mk n), .tuple (ms.map dM)]
theorem dpT {t : Tr} {v : V} (h : AtTr H t v) : Dp K H v (dTr t) := by
  cases t with
  | kind n q fs ms =>
    obtain ⟨p, vw, r, xs, rfl, h1, h2, h3, h4⟩ := h
    exact .tup (SqT.of h1) (.cons (.str _) (.cons (.str _) (.cons (.str _) (.cons (dp_w h2) (.cons (.tup (SqT.of h3) (dp_all (fun _ _ h => dpM h) h4)) .nil)))))
  | more n ms =>
    obtain ⟨p, r, xs, rfl, h1, h3, h4⟩ := h
    exact .tup (SqT.of h1) (.cons (.str _) (.cons (.str _) (.cons (.tup (SqT.of h3) (dp_all (fun _ _ h => dpM h) h4)) .nil)))
def AtTT (H : Hp) (ts : List Tr) (v : V) : Prop := ∃ p vs, v = .ref p ∧ H p = some (.tup vs) ∧ AtTs H ts vs
theorem dpTT {ts : List Tr} {v : V} (h : AtTT H ts v) : Dp K H v (.tuple (ts.map dTr)) := by
  obtain ⟨p, vs, rfl, h1, h2⟩ := h
  exact .tup (SqT.of h1) (dp_all (fun _ _ h => dpT h) h2)
end
theorem str_of {w : T} (h : ∀ c ∈ w, c < 1000) : PyData.strOk (mk w) = true := by
  unfold PyData.strOk
  show (w.toArray).all _ = true
  rw [List.all_toArray]
  exact List.all_eq_true.mpr fun c hc => decide_eq_true (by have := h c hc; omega)
theorem sg_lt {c : Nat} (h : Sg c) : c < 1000 := by unfold Sg at h; omega
theorem str_free {w : T} (h : isFree w = true) : PyData.strOk (mk w) = true := str_of fun c hc => sg_lt ((small_facts (free_small h)).2.2.1 c hc)
theorem str_kind {w : T} (h : isKindName w = true) : PyData.strOk (mk w) = true := str_of fun c hc => sg_lt ((kind_facts h).2.2.1 c hc)
theorem str_text {w : T} (h : isText w = true) : PyData.strOk (mk w) = true := str_of fun c hc => sg_lt ((text_facts h).2 c hc)
theorem str_msg {w : T} (h : isMsg w = true) : PyData.strOk (mk w) = true := by
  unfold isMsg at h
  rcases Bool.or_eq_true_iff.mp h with h | h
  · exact str_free h
  · unfold inS at h
    obtain ⟨z, hz, e⟩ := List.any_eq_true.mp h
    rw [← eq_of_beq e]
    clear e h
    revert z
    decide +kernel
theorem str_pl {w : T} (h : isPl w = true) : PyData.strOk (mk w) = true := by
  rcases pl_cases_ h with h | h | h | h <;> (rw [h, mk_tl]; decide +kernel)
/-- a tuple is fit where all in it is -/
theorem ft {ds : List PyData} {n : Nat} (h : ∀ d ∈ ds, d.canLay0 = true ∧ d.depth ≤ n) : (PyData.tuple ds).canLay0 = true ∧ (PyData.tuple ds).depth ≤ n + 1 := by
  have := lay_all (f := id) (n := n) ds h
  rw [List.map_id] at this
  refine ⟨?_, ?_⟩
  · rw [PyData.canLay0]; exact this.1
  · rw [PyData.depth]; have := this.2; omega
abbrev Fit (d : PyData) (n : Nat) : Prop := d.canLay0 = true ∧ d.depth ≤ n
theorem Fit.up {d : PyData} {n m : Nat} (h : Fit d n) (e : n ≤ m) : Fit d m := ⟨h.1, Nat.le_trans h.2 e⟩
theorem fit_s {z : Str} {n : Nat} (h : PyData.strOk z = true) : Fit (.str z) n := ⟨by rw [PyData.canLay0]; exact h, by rw [PyData.depth]; exact Nat.zero_le _⟩
theorem fit_i {i : Int} {n : Nat} : Fit (.int i) n := ⟨by rw [PyData.canLay0], by rw [PyData.depth]; exact Nat.zero_le _⟩
theorem fit_b {b : Bool} {n : Nat} : Fit (.bool b) n := ⟨by rw [PyData.canLay0], by rw [PyData.depth]; exact Nat.zero_le _⟩
theorem fit_w {ws : List T} {n : Nat} (h : ∀ w ∈ ws, isFree w = true) (hn : 1 ≤ n) : Fit (dW ws) n := Fit.up (n := 1) (ft (n := 0) fun d hd => by
  obtain ⟨w, hw, rfl⟩ := List.mem_map.mp hd
  exact fit_s (str_free (h w hw))) hn
theorem fl {d : PyData} {ds : List PyData} {n : Nat} (h : Fit d n) (g : ∀ x ∈ ds, Fit x n) : ∀ x ∈ d :: ds, Fit x n := fun x hx => by
  rcases List.mem_cons.mp hx with rfl | hx
  · exact h
  · exact g x hx
theorem f0 {n : Nat} : ∀ x ∈ ([] : List PyData), Fit x n := fun x hx => by simp at hx
theorem fk (s : String) {n : Nat} (h : PyData.strOk (Str.ofString s) = true) : Fit (dS_ s) n := fit_s h
mutual
theorem fE : ∀ e : Ex, okE e → Fit (dE e) (3 * oE e + 1)
  | .num n, h => ft (fl (fk "number" (by decide +kernel)) (fl fit_i f0))
  | .txt s, h => ft (fl (fk "text" (by decide +kernel)) (fl (fit_s (str_text h)) f0))
  | .tru b, h => ft (fl (fk "truth" (by decide +kernel)) (fl fit_b f0))
  | .non, h => ft (fl (fk "none" (by decide +kernel)) f0)
  | .slf, h => ft (fl (fk "self" (by decide +kernel)) f0)
  | .nam w, h => ft (fl (fk "name" (by decide +kernel)) (fl (fit_s (str_free h)) f0))
  | .fld w, h => ft (fl (fk "field" (by decide +kernel)) (fl (fit_s (str_free h)) f0))
  | .new w, h => ft (fl (fk "new" (by decide +kernel)) (fl (fit_s (str_kind h)) f0))
  | .send r m es, h => by
    have ho : oE (.send r m es) = 1 + max (oE r) (oEs es) := rfl
    have h1 := fE r h.2.1
    have h2 := ft (fEs es h.2.2)
    exact (ft (n := 3 * oE (.send r m es)) (fl (fk "send" (by decide +kernel)) (fl (h1.up (by omega)) (fl (fit_s (str_msg h.1)) (fl (Fit.up h2 (by omega)) f0)))))
  | .up m es, h => by
    have ho : oE (.up m es) = 1 + oEs es := rfl
    have h2 := ft (fEs es h.2)
    exact (ft (n := 3 * oE (.up m es)) (fl (fk "up" (by decide +kernel)) (fl (fit_s (str_free h.1)) (fl (Fit.up h2 (by omega)) f0))))
  | .lst es, h => by
    have ho : oE (.lst es) = 1 + oEs es := rfl
    have h2 := ft (fEs es h)
    exact (ft (n := 3 * oE (.lst es)) (fl (fk "list" (by decide +kernel)) (fl (Fit.up h2 (by omega)) f0)))
  | .blk ps ss, h => by
    have ho : oE (.blk ps ss) = 1 + oSs ss := rfl
    have h2 := ft (fSs ss h.2.2)
    exact (ft (n := 3 * oE (.blk ps ss)) (fl (fk "block" (by decide +kernel)) (fl (fit_w h.2.1 (by omega)) (fl (Fit.up h2 (by omega)) f0))))
theorem fEs : ∀ e : Exs, okEs e → ∀ d ∈ dEs e, Fit d (3 * oEs e + 1)
  | .nil, _ => f0
  | .cons e r, h => by
    have ho : oEs (.cons e r) = max (oE e) (oEs r) := rfl
    exact fl ((fE e h.1).up (by omega)) fun d hd => (fEs r h.2 d hd).up (by omega)
theorem fS : ∀ s : St_, okS s → Fit (dS s) (3 * oS s + 2)
  | .set w e, h => by
    have ho : oS (.set w e) = oE e := rfl
    exact (ft (n := 3 * oE e + 1) (fl (fk "set" (by decide +kernel)) (fl (fit_s (str_free h.1)) (fl (fE e h.2) f0))))
  | .sfl w e, h => by
    have ho : oS (.sfl w e) = oE e := rfl
    exact (ft (n := 3 * oE e + 1) (fl (fk "setfield" (by decide +kernel)) (fl (fit_s (str_free h.1)) (fl (fE e h.2) f0))))
  | .pl k e, h => by
    have ho : oS (.pl k e) = oE e := rfl
    exact (ft (n := 3 * oE e + 1) (fl (fit_s (str_pl h.1)) (fl (fE e h.2) f0)))
  | .iff e a b, h => by
    have ho : oS (.iff e a b) = 1 + max (oE e) (max (oSs a) (oSs b)) := rfl
    have h1 := fE e h.1
    have h2 := ft (fSs a h.2.1)
    have h3 := ft (fSs b h.2.2)
    exact (ft (n := 3 * oS (.iff e a b) + 1) (fl (fk "if" (by decide +kernel)) (fl (h1.up (by omega)) (fl (Fit.up h2 (by omega)) (fl (Fit.up h3 (by omega)) f0)))))
  | .whl e a, h => by
    have ho : oS (.whl e a) = 1 + max (oE e) (oSs a) := rfl
    have h1 := fE e h.1
    have h2 := ft (fSs a h.2)
    exact (ft (n := 3 * oS (.whl e a) + 1) (fl (fk "while" (by decide +kernel)) (fl (h1.up (by omega)) (fl (Fit.up h2 (by omega)) f0))))
  | .tri a w b, h => by
    have ho : oS (.tri a w b) = 1 + max (oSs a) (oSs b) := rfl
    have h2 := ft (fSs a h.2.1)
    have h3 := ft (fSs b h.2.2)
    exact (ft (n := 3 * oS (.tri a w b) + 1) (fl (fk "try" (by decide +kernel)) (fl (Fit.up h2 (by omega)) (fl (fit_s (str_free h.1)) (fl (Fit.up h3 (by omega)) f0)))))
theorem fSs : ∀ e : Sts, okSs e → ∀ d ∈ dSs e, Fit d (3 * oSs e + 2)
  | .nil, _ => f0
  | .cons e r, h => by
    have ho : oSs (.cons e r) = max (oS e) (oSs r) := rfl
    exact fl ((fS e h.1).up (by omega)) fun d hd => (fSs r h.2 d hd).up (by omega)
end
theorem fM (m : Me) (h : okM m) : Fit (dM m) 40 := by
  have h1 := ft (fSs m.ss h.ss)
  have h2 := h.o
  exact (ft (n := 39) (fl (fk "method" (by decide +kernel)) (fl (fit_s (str_free h.fr)) (fl (fit_w h.ps (by decide)) (fl (Fit.up h1 (by omega)) f0)))))
theorem fMs {ms : List Me} (h : ∀ m ∈ ms, okM m) : Fit (.tuple (ms.map dM)) 41 := ft fun d hd => by
  obtain ⟨m, hm, rfl⟩ := List.mem_map.mp hd
  exact fM m (h m hm)
theorem fT (t : Tr) (h : okTr t) : Fit (dTr t) 42 := by
  cases t with
  | kind n p fs ms => exact ft (fl (fk "kind" (by decide +kernel)) (fl (fit_s (str_kind h.hd.1)) (fl (fit_s (str_kind h.hd.2.1)) (fl (fit_w h.hd.2.2.2 (by decide)) (fl (fMs h.ms) f0)))))
  | more n ms => exact ft (fl (fk "more" (by decide +kernel)) (fl (fit_s (str_kind h.hd)) (fl (fMs h.ms) f0)))
theorem fTT {ts : List Tr} (h : ∀ t ∈ ts, okTr t) : Fit (.tuple (ts.map dTr)) 43 := ft fun d hd => by
  obtain ⟨t, ht, rfl⟩ := List.mem_map.mp hd
  exact fT t (h t ht)
end My
set_option Elab.async false
set_option linter.all false
set_option maxRecDepth 100000
set_option maxHeartbeats 4000000
namespace My
open PySem L2 SS
section
variable {P : Program} {w : World} {K : PySem.W.Frag} {mg : Str → Option Value} {base : Heap}
/-- a method at a depth that is told only when it's called -/
def spGMx : Sp := fun vs H Q E => ∃ d, spGM d vs H Q E
theorem c_gmx {k : Nat} (hk : 1 ≤ k) (TS : TxS K mg) (T : TxL mg) (D : Dn K mg "_law_method" sGM) (GN : C0 P w K mg base 1 "_law_next" spNext) (GW : C0 P w K mg base 1 "_law_word" (spLWord isFree)) (GBs : ∀ d, d ≤ 12 → C0 P w K mg base k "_law_body" (spGB d)) : C0 P w K mg base (k + 1) "_law_method" spGMx := by
  obtain ⟨f, fd, F, m⟩ := D.ex
  refine ⟨f, fd, ["_law_deck_here", "_law_depth"], F.ok scGM (fun vs H Q E h => ?_) (fun cdv A outer s H vs Q E hr h => ?_), m, F.kp, F.binds (ps := ["_law_deck_here", "_law_depth"]) fun _ _ _ _ _ _ us hl => match us, hl with | [_, _], _ => rfl⟩
  · obtain ⟨d, p, l, a, b, xs, dd, rfl, _⟩ := h
    rfl
  obtain ⟨d, p, l, a, b, xs, dd, rfl, rfl, hd12, hd, hp1, hp2, kq⟩ := h
  have GB := GBs d hd12
  refine ⟨_, pss_cons (ps_set (i := 2) scGM.nd rfl (Or.inr rfl) (pe_cc GN hr (by omega) pass0 (pa_cons (pv 0) pa_nil))) <|
    pss_cons (ps_set (i := 3) scGM.nd rfl (Or.inl rfl) (pe_callTy call_tuple_of (by rfl) TS.tup (by decide +kernel) (pa_cons (pe_lc (own := [("_law_k", 4)]) (g := gName 4) (tt := tYes) rfl scGM.nd (pi_range1 rfl T.range (pa_cons (pe_op op_mod (pe_op op_fdiv (pv 2) pe_int) pe_int) pa_nil))
      (blkOk_by (own := [("_law_k", 4)]) (N := ["_law_deck_here", "_law_depth", "_law_draw", "_law_words", "_law_k"]) (sc := defScope sGM) (by decide +kernel)) (fun _ _ _ _ _ => pg_name (i := 4) scGM.nd rfl (Or.inl rfl)) (fun _ _ _ _ _ => pts_nil)
      (fun _ _ _ _ _ => pe_cc GW hr (by omega) pass0 (pa_cons (pe_op op_add (pe_op op_fdiv (pv 2) pe_int) (pe_op op_mul pe_int (pv 4))) pa_nil))) pa_nil))) <|
    pss_one (ps_ret (pe_tup (pa_cons pe_str (pa_cons (pe_cc GW hr (by omega) pass0 (pa_cons (pv 2) pa_nil)) (pa_cons (pv 3) (pa_cons (pe_cc GB hr (by omega) pass0 (pa_cons (pv 0) (pa_cons (pe_op op_mod (pe_op op_fdiv (pv 2) pe_int) pe_int) (pa_cons (pv 1) pa_nil)))) pa_nil)))))), ?_⟩
  have ha : a ≤ 10000 := by
    by_cases hb : 0 < b
    · have := hp1 hb; omega
    · have := hp2 (by omega); omega
  refine ⟨_, rfl, p, l, a, b, xs, rfl, hd, ha, fun n hn d2 => ?_⟩
  have s2 : SB p H (upd H p (.lst [.int ((a + 1 : Nat) : Int), .ref l, .int b])) := SB.upd _
  generalize upd H p (.lst [.int ((a + 1 : Nat) : Int), .ref l, .int b]) = H2 at d2 s2 ⊢
  obtain ⟨m3, em3, hm3⟩ := emod_nat (n / 100) (n := 4) (by decide)
  refine ⟨_, rfl, _, _, rfl, rfl, ⟨by decide, by decide⟩, _, _, rfl, rfl, (by show (0 : Int) < 4; decide), ((m3 : Nat) : Int), by rw [← em3]; rfl, by omega, by omega, fun D0 hD0 => ?_⟩
  refine lc_range (lo := 0) (n := ((m3 : Nat) : Int).toNat) (fun i H3 => ∃ (ws : List (List Nat)), Same H2 H3 ∧ H3 D0 = some (.lst (wsV ws)) ∧ ws.length = i ∧ ∀ z ∈ ws, isFree z = true) ⟨[], same_new hD0 _, upd_same, rfl, fun z hz => by simp at hz⟩ ?_ ?_
  · rintro i H3 hi ⟨ws, s3, h3, hl3, hf3⟩
    have hi' : i < m3 := by omega
    refine ⟨rfl, ?_⟩
    unfold tYes
    refine iteT ?_
    refine ⟨_, rfl, _, _, rfl, rfl, ⟨by decide, by decide⟩, _, rfl, _, _, rfl, rfl, .inl ⟨by omega, by omega⟩, _, _, rfl, rfl, _, rfl, fun z H4 s4 gz => ?_⟩
    refine ⟨wsV ws, s4 _ _ h3, by unfold wsV; rw [List.length_map, sizeLine_eq]; omega, ws ++ [z], ?_, ?_, by rw [List.length_append, hl3]; rfl, fun x hx => ?_⟩
    · intro q u h
      rw [upd_ne (ne_of_none h hD0)]
      exact s4 _ _ (s3 _ _ h)
    · rw [upd_same]
      unfold wsV
      rw [List.map_append]
      rfl
    · rcases List.mem_append.mp hx with hx | hx
      · exact hf3 x hx
      · have : x = z := by simpa using hx
        rw [this]
        exact gz
  rintro H3 ⟨ws, s3, h3, hl3, hf3⟩
  refine ⟨D0, _, rfl, .inl ⟨SqL.of h3, fun tq htq => ?_⟩⟩
  have s4 := s3.trans (same_new htq (.tup (wsV ws)))
  have aw : AtW (upd H3 tq (.tup (wsV ws))) ws (.ref tq) := ⟨tq, rfl, upd_same⟩
  generalize upd H3 tq (.tup (wsV ws)) = H4 at s4 aw ⊢
  refine ⟨_, rfl, _, rfl, fun z H5 s5 gz => ?_⟩
  have s6 := s4.trans s5
  have d6 := d2.same s6
  obtain ⟨mm, emm, hmm⟩ := emod_nat (n / 400) (n := 5) (by decide)
  refine ⟨_, rfl, _, rfl, _, rfl, _, _, rfl, rfl, ⟨by decide, by decide⟩, _, _, rfl, rfl, (by show (0 : Int) < 5; decide), _, rfl, p, l, _, _, xs, _, _, mm, rfl, rfl, emm, by omega, d6, fun h => ?_, fun h => ?_, fun es q ys H7 s7 d7 hq at7 ok7 o7 g3 g4 => ?_⟩
  · have := hp1 h; omega
  · have := hp2 h; omega
  refine ⟨by show 4 ≤ sizeLine; decide, fun r hr2 => ?_⟩
  have sr := same_new hr2 (.tup [S_ "method", .str (mk z), .ref tq, .ref q])
  have t7 := ((same_tups s5).trans (s7.tups d6.1)).trans (same_tups sr)
  refine kq ⟨z, ws, es⟩ (.ref r) _ ((s2.trans (SB.same s6)).trans (s7.trans (SB.same sr))) (d7.same sr) ⟨r, _, q, ys, rfl, upd_same, aw.on t7, sr _ _ hq, at7.on_ (same_tups sr)⟩ ⟨gz, by show ws.length ≤ 3; omega, hf3, ok7, Nat.le_trans o7 hd12⟩ (fun h => ?_) (fun h => ?_)
  · have := g3 h
    show ((nSs es : Nat) : Int) ≤ _
    omega
  · have := g4 h
    show nSs es ≤ 8
    omega
end
end My
set_option Elab.async false
set_option linter.all false
set_option maxRecDepth 100000
set_option maxHeartbeats 4000000
namespace My
open PySem L2 SS
/-! ### names: what is set or taken where no block around hides it -/
mutual
def gdE : Ex → Prop
  | .send r _ es => gdE r ∧ gdEs es
  | .up _ es => gdEs es
  | .lst es => gdEs es
  | .blk ps ss => ps.length ≤ 10 ∧ gdSs ss
  | _ => True
def gdEs : Exs → Prop
  | .nil => True
  | .cons e r => gdE e ∧ gdEs r
def gdS : St_ → Prop
  | .set _ e => gdE e
  | .sfl _ e => gdE e
  | .pl k e => isPl k = true ∧ gdE e
  | .iff e a b => gdE e ∧ gdSs a ∧ gdSs b
  | .whl e a => gdE e ∧ gdSs a
  | .tri a _ b => gdSs a ∧ gdSs b
def gdSs : Sts → Prop
  | .nil => True
  | .cons s r => gdS s ∧ gdSs r
end
mutual
theorem ok_gdE : ∀ e : Ex, okE e → gdE e
  | .send r m es, h => ⟨ok_gdE r h.2.1, ok_gdEs es h.2.2⟩
  | .up m es, h => ok_gdEs es h.2
  | .lst es, h => ok_gdEs es h
  | .blk ps ss, h => ⟨by have := h.1; omega, ok_gdSs ss h.2.2⟩
  | .num _, _ => trivial
  | .txt _, _ => trivial
  | .tru _, _ => trivial
  | .non, _ => trivial
  | .slf, _ => trivial
  | .nam _, _ => trivial
  | .fld _, _ => trivial
  | .new _, _ => trivial
theorem ok_gdEs : ∀ e : Exs, okEs e → gdEs e
  | .nil, _ => trivial
  | .cons e r, h => ⟨ok_gdE e h.1, ok_gdEs r h.2⟩
theorem ok_gdS : ∀ s : St_, okS s → gdS s
  | .set _ e, h => ok_gdE e h.2
  | .sfl _ e, h => ok_gdE e h.2
  | .pl k e, h => ⟨h.1, ok_gdE e h.2⟩
  | .iff e a b, h => ⟨ok_gdE e h.1, ok_gdSs a h.2.1, ok_gdSs b h.2.2⟩
  | .whl e a, h => ⟨ok_gdE e h.1, ok_gdSs a h.2⟩
  | .tri a _ b, h => ⟨ok_gdSs a h.2.1, ok_gdSs b h.2.2⟩
theorem ok_gdSs : ∀ e : Sts, okSs e → gdSs e
  | .nil, _ => trivial
  | .cons e r, h => ⟨ok_gdS e h.1, ok_gdSs r h.2⟩
end
def gdN : Nd → Prop
  | .e x => gdE x
  | .s x => gdS x
theorem exl_gd : ∀ (es : Exs), gdEs es → ∀ q ∈ exl es, gdN q
  | .nil, _, q, h => by simp [exl] at h
  | .cons e r, g, q, h => by
    rcases List.mem_cons.mp h with rfl | h
    · exact g.1
    · exact exl_gd r g.2 q h
theorem stl_gd : ∀ (es : Sts), gdSs es → ∀ q ∈ stl es, gdN q
  | .nil, _, q, h => by simp [stl] at h
  | .cons e r, g, q, h => by
    rcases List.mem_cons.mp h with rfl | h
    · exact g.1
    · exact stl_gd r g.2 q h
theorem parts_gd (n : Nd) (g : gdN n) : ∀ q ∈ parts n, gdN q := fun q h => by
  cases n with
  | e x =>
    cases x with
    | send r m es =>
      rcases List.mem_cons.mp h with rfl | h
      · exact g.1
      · exact exl_gd es g.2 q h
    | up m es => exact exl_gd es g q h
    | lst es => exact exl_gd es g q h
    | blk ps ss => exact stl_gd ss g.2 q h
    | _ => simp [parts] at h
  | s x =>
    cases x with
    | set w e => obtain rfl : q = .e e := by simpa [parts] using h
                 exact g
    | sfl w e => obtain rfl : q = .e e := by simpa [parts] using h
                 exact g
    | pl w e => obtain rfl : q = .e e := by simpa [parts] using h
                exact g.2
    | iff e a b =>
      rcases List.mem_cons.mp h with rfl | h
      · exact g.1
      · rcases List.mem_append.mp h with h | h
        · exact stl_gd a g.2.1 q h
        · exact stl_gd b g.2.2 q h
    | whl e a =>
      rcases List.mem_cons.mp h with rfl | h
      · exact g.1
      · exact stl_gd a g.2 q h
    | tri a w b =>
      rcases List.mem_append.mp h with h | h
      · exact stl_gd a g.1 q h
      · exact stl_gd b g.2 q h
def nameN : Nd → Option T
  | .s (.set w _) => some w
  | .s (.tri _ w _) => some w
  | _ => none
def blkP : Nd → List T
  | .e (.blk ps _) => ps
  | _ => []
def addN (n : Nd) (hid f : List T) : List T := match nameN n with
  | some w => if w ∈ hid ∨ w ∈ f then f else f ++ [w]
  | none => f
def wiH : Nat → List Nd → List T → List T → List T
  | 0, _, _, f => f
  | h + 1, qs, hid, f => qs.foldl (fun f n => wiH h (parts n) (hid ++ blkP n) (addN n hid f)) f
theorem wiH_nil (h : Nat) (hid f : List T) : wiH h [] hid f = f := by cases h <;> rfl
theorem addN_len (n : Nd) (hid f : List T) : (addN n hid f).length ≤ f.length + 1 := by
  unfold addN
  split
  · split
    · omega
    · rw [List.length_append]; exact Nat.le_refl _
  · omega
theorem exl_n : ∀ es : Exs, ((exl es).map nN).sum = nEs es
  | .nil => rfl
  | .cons e r => by
    have := exl_n r
    show nE e + ((exl r).map nN).sum = nE e + nEs r
    omega
theorem stl_n : ∀ es : Sts, ((stl es).map nN).sum = nSs es
  | .nil => rfl
  | .cons e r => by
    have := stl_n r
    show nS e + ((stl r).map nN).sum = nS e + nSs r
    omega
theorem parts_n (n : Nd) : ((parts n).map nN).sum + 1 = nN n := by
  cases n with
  | e x =>
    cases x with
    | send r m es => have := exl_n es; show (nE r + ((exl es).map nN).sum) + 1 = 1 + nE r + nEs es; omega
    | up m es => have := exl_n es; show ((exl es).map nN).sum + 1 = 1 + nEs es; omega
    | lst es => have := exl_n es; show ((exl es).map nN).sum + 1 = 1 + nEs es; omega
    | blk ps ss => have := stl_n ss; show ((stl ss).map nN).sum + 1 = 1 + nSs ss; omega
    | _ => rfl
  | s x =>
    cases x with
    | set w e => show (nE e + 0) + 1 = 1 + nE e; omega
    | sfl w e => show (nE e + 0) + 1 = 1 + nE e; omega
    | pl w e => show (nE e + 0) + 1 = 1 + nE e; omega
    | iff e a b =>
      have h1 := stl_n a
      have h2 := stl_n b
      show ((Nd.e e :: (stl a ++ stl b)).map nN).sum + 1 = 1 + nE e + nSs a + nSs b
      rw [List.map_cons, List.sum_cons, List.map_append, List.sum_append]
      show nE e + (_ + _) + 1 = _
      omega
    | whl e a => have h1 := stl_n a; show (nE e + ((stl a).map nN).sum) + 1 = 1 + nE e + nSs a; omega
    | tri a w b =>
      have h1 := stl_n a
      have h2 := stl_n b
      show ((stl a ++ stl b).map nN).sum + 1 = 1 + nSs a + nSs b
      rw [List.map_append, List.sum_append]
      omega
theorem wi_len : ∀ (h : Nat) (qs : List Nd) (hid f : List T), (wiH h qs hid f).length ≤ f.length + (qs.map nN).sum
  | 0, qs, hid, f => by show f.length ≤ _; omega
  | h + 1, qs, hid, f => by
    show (qs.foldl (fun f n => wiH h (parts n) (hid ++ blkP n) (addN n hid f)) f).length ≤ _
    induction qs generalizing f with
    | nil => simp
    | cons q r ih =>
      rw [List.foldl_cons, List.map_cons, List.sum_cons]
      have h1 := ih (wiH h (parts q) (hid ++ blkP q) (addN q hid f))
      have h2 := wi_len h (parts q) (hid ++ blkP q) (addN q hid f)
      have h3 := addN_len q hid f
      have h4 := parts_n q
      omega
theorem sum_take_le : ∀ (qs : List Nd) {i : Nat} {q : Nd}, qs[i]? = some q → ((qs.take i).map nN).sum + nN q ≤ (qs.map nN).sum
  | [], i, q, h => by simp at h
  | x :: r, 0, q, h => by
    have e : x = q := by simpa using h
    rw [e]
    show 0 + nN q ≤ nN q + (r.map nN).sum
    omega
  | x :: r, i + 1, q, h => by
    have := sum_take_le r (i := i) (q := q) (by simpa using h)
    show nN x + ((r.take i).map nN).sum + nN q ≤ nN x + (r.map nN).sum
    omega
theorem exl_len : ∀ es : Exs, (exl es).length ≤ nEs es
  | .nil => Nat.le_refl _
  | .cons e r => by
    have h1 := exl_len r
    have h2 : 1 ≤ nE e := by cases e <;> simp only [nE] <;> omega
    show (exl r).length + 1 ≤ nE e + nEs r
    omega
theorem stl_len : ∀ ss : Sts, (stl ss).length ≤ nSs ss
  | .nil => Nat.le_refl _
  | .cons e r => by
    have h1 := stl_len r
    have h2 : 1 ≤ nS e := by cases e <;> simp only [nS] <;> omega
    show (stl r).length + 1 ≤ nS e + nSs r
    omega
theorem wsV_app (a b : List T) : wsV a ++ wsV b = wsV (a ++ b) := (List.map_append ..).symm
theorem wsV_len (a : List T) : (wsV a).length = a.length := List.length_map _
theorem in_ws (w : T) (ws : List T) : inV (.str (mk w)) (wsV ws) = decide (w ∈ ws) := by
  unfold inV wsV
  rw [List.any_map]
  induction ws with
  | nil => rfl
  | cons z r ih =>
    rw [List.any_cons, ih]
    have e : ((fun y => eqV y (V.str (mk w))) ∘ fun w => V.str (mk w)) z = decide (w = z) := by
      show (mk z == mk w) = decide (w = z)
      by_cases c : w = z
      · rw [c]; simp
      · rw [decide_eq_false c]
        exact beq_eq_false_iff_ne.mpr fun h => c (congrArg tl h).symm
    rw [e]
    by_cases c : w = z
    · simp [c]
    · simp [c]
theorem flat_ws (ws : List T) : (wsV ws).all flatV = true := by
  unfold wsV
  rw [List.all_map]
  exact List.all_eq_true.mpr fun _ _ => rfl
end My
set_option Elab.async false
set_option linter.all false
set_option maxRecDepth 100000
set_option maxHeartbeats 8000000
namespace My
open PySem L2 SS
abbrev sWi : Stmt := top 20
theorem in_test4 {K : PySem.W.Frag} {σ : L2.St} {H : Hp} {Qb : Bool → Hp → Prop} {z : Str} {zs : List V} {t : TA} (hσ : σ[4]? = some (some (V.str z))) (ht : ∀ H Q, Q zs H → t σ H Q) (hl : zs.length ≤ sizeLine) (hf : zs.all flatV = true) {b : Bool} (hb : inV (.str z) zs = b) (k : ∀ H', Same H H' → Qb b H') : tTest (tOp (rIn K false) (tVar 4) (tLst t)) σ H Qb := by
  refine ⟨_, hσ, ht _ _ ⟨hl, fun L hL => ⟨L, _, rfl, .inl (SqL.of upd_same), rfl, hf, _, rfl, ?_⟩⟩⟩
  show Qb (inV (.str z) zs) _
  rw [hb]
  exact k _ (same_new hL _)
/-- the word of a node, and its name where it has one -/
def wordN : Nd → Str
  | .e (.num _) => Str.ofString "number"
  | .e (.txt _) => Str.ofString "text"
  | .e (.tru _) => Str.ofString "truth"
  | .e .non => Str.ofString "none"
  | .e .slf => Str.ofString "self"
  | .e (.nam _) => Str.ofString "name"
  | .e (.fld _) => Str.ofString "field"
  | .e (.new _) => Str.ofString "new"
  | .e (.send _ _ _) => Str.ofString "send"
  | .e (.up _ _) => Str.ofString "up"
  | .e (.lst _) => Str.ofString "list"
  | .e (.blk _ _) => Str.ofString "block"
  | .s (.set _ _) => Str.ofString "set"
  | .s (.sfl _ _) => Str.ofString "setfield"
  | .s (.pl k _) => mk k
  | .s (.iff _ _ _) => Str.ofString "if"
  | .s (.whl _ _) => Str.ofString "while"
  | .s (.tri _ _ _) => Str.ofString "try"
def nameV (n : Nd) : V := match nameN n with
  | some w => .str (mk w)
  | none => .non
theorem name_word {H : Hp} {n : Nd} {v : V} (h : AtN H n v) (hok : gdN n) : ∃ p rest, v = .ref p ∧ H p = some (.tup (.str (wordN n) :: rest)) ∧
    ((decide (V.str (wordN n) = V.str (Str.ofString "set")) = true ∧ rest[0]? = some (nameV n)) ∨ (decide (V.str (wordN n) = V.str (Str.ofString "set")) = false ∧ decide (V.str (wordN n) = V.str (Str.ofString "try")) = true ∧ rest[1]? = some (nameV n)) ∨
     (decide (V.str (wordN n) = V.str (Str.ofString "set")) = false ∧ decide (V.str (wordN n) = V.str (Str.ofString "try")) = false ∧ nameV n = .non)) := by
  cases n with
  | e x =>
    cases x with
    | send r m es => obtain ⟨p, vr, q, xs, rfl, hp, _⟩ := h; exact ⟨p, _, rfl, hp, .inr (.inr ⟨by show decide (V.str (Str.ofString "send") = V.str (Str.ofString "set")) = false; decide +kernel, by show decide (V.str (Str.ofString "send") = V.str (Str.ofString "try")) = false; decide +kernel, rfl⟩)⟩
    | up m es => obtain ⟨p, q, xs, rfl, hp, _⟩ := h; exact ⟨p, _, rfl, hp, .inr (.inr ⟨by show decide (V.str (Str.ofString "up") = V.str (Str.ofString "set")) = false; decide +kernel, by show decide (V.str (Str.ofString "up") = V.str (Str.ofString "try")) = false; decide +kernel, rfl⟩)⟩
    | lst es => obtain ⟨p, q, xs, rfl, hp, _⟩ := h; exact ⟨p, _, rfl, hp, .inr (.inr ⟨by show decide (V.str (Str.ofString "list") = V.str (Str.ofString "set")) = false; decide +kernel, by show decide (V.str (Str.ofString "list") = V.str (Str.ofString "try")) = false; decide +kernel, rfl⟩)⟩
    | blk ps ss => obtain ⟨p, vw, q, xs, rfl, hp, _⟩ := h; exact ⟨p, _, rfl, hp, .inr (.inr ⟨by show decide (V.str (Str.ofString "block") = V.str (Str.ofString "set")) = false; decide +kernel, by show decide (V.str (Str.ofString "block") = V.str (Str.ofString "try")) = false; decide +kernel, rfl⟩)⟩
    | num n => obtain ⟨p, rfl, hp⟩ := h; exact ⟨p, _, rfl, hp, .inr (.inr ⟨by show decide (V.str (Str.ofString "number") = V.str (Str.ofString "set")) = false; decide +kernel, by show decide (V.str (Str.ofString "number") = V.str (Str.ofString "try")) = false; decide +kernel, rfl⟩)⟩
    | txt z => obtain ⟨p, rfl, hp⟩ := h; exact ⟨p, _, rfl, hp, .inr (.inr ⟨by show decide (V.str (Str.ofString "text") = V.str (Str.ofString "set")) = false; decide +kernel, by show decide (V.str (Str.ofString "text") = V.str (Str.ofString "try")) = false; decide +kernel, rfl⟩)⟩
    | tru b => obtain ⟨p, rfl, hp⟩ := h; exact ⟨p, _, rfl, hp, .inr (.inr ⟨by show decide (V.str (Str.ofString "truth") = V.str (Str.ofString "set")) = false; decide +kernel, by show decide (V.str (Str.ofString "truth") = V.str (Str.ofString "try")) = false; decide +kernel, rfl⟩)⟩
    | non => obtain ⟨p, rfl, hp⟩ := h; exact ⟨p, _, rfl, hp, .inr (.inr ⟨by show decide (V.str (Str.ofString "none") = V.str (Str.ofString "set")) = false; decide +kernel, by show decide (V.str (Str.ofString "none") = V.str (Str.ofString "try")) = false; decide +kernel, rfl⟩)⟩
    | slf => obtain ⟨p, rfl, hp⟩ := h; exact ⟨p, _, rfl, hp, .inr (.inr ⟨by show decide (V.str (Str.ofString "self") = V.str (Str.ofString "set")) = false; decide +kernel, by show decide (V.str (Str.ofString "self") = V.str (Str.ofString "try")) = false; decide +kernel, rfl⟩)⟩
    | nam z => obtain ⟨p, rfl, hp⟩ := h; exact ⟨p, _, rfl, hp, .inr (.inr ⟨by show decide (V.str (Str.ofString "name") = V.str (Str.ofString "set")) = false; decide +kernel, by show decide (V.str (Str.ofString "name") = V.str (Str.ofString "try")) = false; decide +kernel, rfl⟩)⟩
    | fld z => obtain ⟨p, rfl, hp⟩ := h; exact ⟨p, _, rfl, hp, .inr (.inr ⟨by show decide (V.str (Str.ofString "field") = V.str (Str.ofString "set")) = false; decide +kernel, by show decide (V.str (Str.ofString "field") = V.str (Str.ofString "try")) = false; decide +kernel, rfl⟩)⟩
    | new z => obtain ⟨p, rfl, hp⟩ := h; exact ⟨p, _, rfl, hp, .inr (.inr ⟨by show decide (V.str (Str.ofString "new") = V.str (Str.ofString "set")) = false; decide +kernel, by show decide (V.str (Str.ofString "new") = V.str (Str.ofString "try")) = false; decide +kernel, rfl⟩)⟩
  | s x =>
    cases x with
    | set z e => obtain ⟨p, ve, rfl, hp, _⟩ := h; exact ⟨p, _, rfl, hp, .inl ⟨by show decide (V.str (Str.ofString "set") = V.str (Str.ofString "set")) = true; decide +kernel, rfl⟩⟩
    | sfl z e => obtain ⟨p, ve, rfl, hp, _⟩ := h; exact ⟨p, _, rfl, hp, .inr (.inr ⟨by show decide (V.str (Str.ofString "setfield") = V.str (Str.ofString "set")) = false; decide +kernel, by show decide (V.str (Str.ofString "setfield") = V.str (Str.ofString "try")) = false; decide +kernel, rfl⟩)⟩
    | pl z e =>
      obtain ⟨p, ve, rfl, hp, _⟩ := h
      have hz : isPl z = true := hok.1
      refine ⟨p, _, rfl, hp, .inr (.inr ⟨?_, ?_, rfl⟩)⟩
      · show decide (V.str (mk z) = _) = false
        rcases pl_cases hz with h | h | h | h <;> (rw [h, mk_tl]; decide +kernel)
      · show decide (V.str (mk z) = _) = false
        rcases pl_cases hz with h | h | h | h <;> (rw [h, mk_tl]; decide +kernel)
    | iff e a b => obtain ⟨p, ve, q, xs, r, ys, rfl, hp, _⟩ := h; exact ⟨p, _, rfl, hp, .inr (.inr ⟨by show decide (V.str (Str.ofString "if") = V.str (Str.ofString "set")) = false; decide +kernel, by show decide (V.str (Str.ofString "if") = V.str (Str.ofString "try")) = false; decide +kernel, rfl⟩)⟩
    | whl e a => obtain ⟨p, ve, q, xs, rfl, hp, _⟩ := h; exact ⟨p, _, rfl, hp, .inr (.inr ⟨by show decide (V.str (Str.ofString "while") = V.str (Str.ofString "set")) = false; decide +kernel, by show decide (V.str (Str.ofString "while") = V.str (Str.ofString "try")) = false; decide +kernel, rfl⟩)⟩
    | tri a z b => obtain ⟨p, q, xs, r, ys, rfl, hp, _⟩ := h; exact ⟨p, _, rfl, hp, .inr (.inl ⟨by show decide (V.str (Str.ofString "try") = V.str (Str.ofString "set")) = false; decide +kernel, by show decide (V.str (Str.ofString "try") = V.str (Str.ofString "try")) = true; decide +kernel, rfl⟩)⟩
/-- one node of the walk -/
def wiS (h : Nat) (hid f : List T) (n : Nd) : List T := wiH h (parts n) (hid ++ blkP n) (addN n hid f)
def wiL (h : Nat) (qs : List Nd) (hid f : List T) : List T := qs.foldl (wiS h hid) f
theorem wiH_succ (h : Nat) (qs : List Nd) (hid f : List T) : wiH (h + 1) qs hid f = wiL h qs hid f := rfl
theorem wiL_snoc (h : Nat) (qs : List Nd) (q : Nd) (hid f : List T) : wiL h (qs ++ [q]) hid f = wiS h hid (wiL h qs hid f) q := by
  unfold wiL
  rw [List.foldl_append]
  rfl
theorem wiL_len (h : Nat) (qs : List Nd) (hid f : List T) : (wiL h qs hid f).length ≤ f.length + (qs.map nN).sum := by
  rw [← wiH_succ]
  exact wi_len _ _ _ _
section
variable {P : Program} {w : World} {K : PySem.W.Frag} {mg : Str → Option Value} {base : Heap}
def spWi (h : Nat) : Sp := fun vs H Q _ => ∃ (a : Addr) (qs : List Nd) (us : List V) (hl fl : Addr) (hid f : List T), 0 < h ∧ vs = [.ref a, .ref hl, .ref fl] ∧ ((H a = some (.lst us) ∧ a ≠ fl) ∨ H a = some (.tup us)) ∧ AtL AtN H qs us ∧ (∀ q ∈ qs, gdN q ∧ hN q ≤ h ∧ nN q ≤ 1000) ∧
  H hl = some (.lst (wsV hid)) ∧ hl ≠ fl ∧ H fl = some (.lst (wsV f)) ∧ hid.length + 10 * h ≤ 1000 ∧ f.length + (qs.map nN).sum ≤ 3000 ∧
  ∀ H', SB fl H H' → H' fl = some (.lst (wsV (wiH h qs hid f))) → Q .non H'
theorem scWi : FnScope ["_law_nodes", "_law_hidden", "_law_found", "_law_node", "_law_word_here", "_law_name_here"] ["_law_nodes", "_law_hidden", "_law_found"] (defScope sWi) := ⟨rfl, rfl, rfl, by decide +kernel, rfl, by decide +kernel, by decide +kernel⟩
theorem c_wi0 (k : Nat) (D : Dn K mg "_law_within" sWi) : C0 P w K mg base (k + 1) "_law_within" (spWi 0) := by
  obtain ⟨f, fd, F, m⟩ := D.ex
  have no : ∀ vs H Q E, spWi 0 vs H Q E → False := fun vs H Q E h => by
    obtain ⟨_, _, _, _, _, _, _, h, _⟩ := h
    omega
  exact ⟨f, fd, ["_law_nodes", "_law_hidden", "_law_found"], F.ok scWi (fun vs H Q E h => (no _ _ _ _ h).elim) (fun cdv A outer s H vs Q E hr h => (no _ _ _ _ h).elim), m, F.kp, F.binds (ps := ["_law_nodes", "_law_hidden", "_law_found"]) fun _ _ _ _ _ _ us hl => match us, hl with | [_, _, _], _ => rfl⟩
theorem ne_free {H : Hp} {fl L : Addr} {o : HO} (h : H fl = some o) (hL : H L = none) : L ≠ fl := fun e => by rw [e, h] at hL; cases hL
theorem c_wi {h k : Nat} (hk : 1 ≤ k) (gL : mg "list" = none) (D : Dn K mg "_law_within" sWi) (G : C0 P w K mg base k "_law_within" (spWi h)) : C0 P w K mg base (k + 1) "_law_within" (spWi (h + 1)) := by
  obtain ⟨f, fd, F, m⟩ := D.ex
  refine ⟨f, fd, ["_law_nodes", "_law_hidden", "_law_found"], F.ok scWi (fun vs H Q E h => ?_) (fun cdv A outer s H vs Q E hr h => ?_), m, F.kp, F.binds (ps := ["_law_nodes", "_law_hidden", "_law_found"]) fun _ _ _ _ _ _ us hl => match us, hl with | [_, _, _], _ => rfl⟩
  · obtain ⟨a, qs, us, hl, fl, hid, f, _, rfl, _⟩ := h
    rfl
  obtain ⟨a, qs, us, hl, fl, hid, f0, _, rfl, ha, hat, hqs, hhl, hne, hfl, hid_len, hflen, kq⟩ := h
  have hul := hat.len
  have kc : ∀ (H5 H6 : Hp) (q : Nd) (f' : List T), Same H5 H6 → H5 fl = some (.lst (wsV f')) → gdN q → 2 ≤ hN q → hN q ≤ h + 1 → nN q ≤ 1000 → f'.length + nN q ≤ 3001 →
      0 < h ∧ (∀ x ∈ parts q, gdN x ∧ hN x ≤ h ∧ nN x ≤ 1000) ∧ H6 fl = some (.lst (wsV f')) ∧ (hid ++ blkP q).length + 10 * h ≤ 1000 ∧ f'.length + ((parts q).map nN).sum ≤ 3000 := fun H5 H6 q f' s6 f5 gq h2 hh1 hn1 hl1 => by
    have hpn := parts_n q
    refine ⟨by omega, fun x hx => ?_, s6 _ _ f5, ?_, by omega⟩
    · obtain ⟨x1, _⟩ := parts_h q x hx
      refine ⟨parts_gd q gq x hx, by omega, ?_⟩
      obtain ⟨i, hi⟩ := List.getElem?_of_mem hx
      have := sum_take_le (parts q) hi
      omega
    · have : (blkP q).length ≤ 10 := by
        cases q with
        | e x => cases x with
          | blk ps ss => exact gq.1
          | _ => exact Nat.zero_le _
        | s x => exact Nat.zero_le _
      rw [List.length_append]
      omega
  rcases ha with ⟨ha, hna⟩ | ha
  · refine ⟨_, pss_one (ps_for PassesOwn.never rfl (pi_list (pv 0)) (pg_name (i := 3) scWi.nd rfl (Or.inl rfl)) (pss_cons (ps_set (i := 4) scWi.nd rfl (Or.inl rfl) (pe_ix ix_tup (pv 3) pe_int (fun _ _ => rfl))) <|
      pss_cons (ps_set (i := 5) scWi.nd rfl (Or.inl rfl) pe_non) <|
      C8.pss_cut (ps_if (pt_cmpR op_eq (pv 4) pe_str (nomark _)) (pss_one (ps_set (i := 5) scWi.nd rfl (Or.inl rfl) (pe_ix ix_tup (pv 3) pe_int (fun _ _ => rfl)))) (pss_one (ps_if (pt_cmpR op_eq (pv 4) pe_str (nomark _)) (pss_one (ps_set (i := 5) scWi.nd rfl (Or.inl rfl) (pe_ix ix_tup (pv 3) pe_int (fun _ _ => rfl)))) pss_nil))) <|
      C8.pss_cut (ps_if (PW.pt (pw_and (pt_cmpR op_notN (pv 5) pe_non (nomark _)) (pw_and (pt_cmpR op_notIn_seq (pv 5) (pv 1) (by rfl)) (pw_and1 (pt_cmpR op_notIn_seq (pv 5) (pv 2) (by rfl)))))) (pss_one (ps_expr (pe_bm PySem.F.plainAttrs_list PySem.F.slot_list_append PySem.F.type_list_append mt_append (pv 2) (pa_cons (pv 5) pa_nil)))) pss_nil) <|
      (pss_one (ps_if (pt_cmpR op_in_seq (pv 4) (pe_lst (pa_cons pe_str (pa_cons pe_str pa_nil))) (by rfl)) (pss_one (ps_expr (pe_cc G hr (Nat.le_refl _) pass0 (pa_cons (pe_lst (pa_cons (pe_ix ix_tup (pv 3) pe_int (fun _ _ => rfl)) pa_nil)) (pa_cons (pv 1) (pa_cons (pv 2) pa_nil)))))) (pss_one (ps_if (pt_cmpR op_in_seq (pv 4) (pe_lst (pa_cons pe_str (pa_cons pe_str (pa_cons pe_str (pa_cons pe_str pa_nil))))) (by rfl)) (pss_one (ps_expr (pe_cc G hr (Nat.le_refl _) pass0 (pa_cons (pe_lst (pa_cons (pe_ix ix_tup (pv 3) pe_int (fun _ _ => rfl)) pa_nil)) (pa_cons (pv 1) (pa_cons (pv 2) pa_nil)))))) (pss_one (ps_if (pt_cmpR op_eq (pv 4) pe_str (nomark _)) (pss_one (ps_expr (pe_cc G hr (Nat.le_refl _) pass0 (pa_cons (pe_op op_cat (pe_op op_cat (pe_lst (pa_cons (pe_ix ix_tup (pv 3) pe_int (fun _ _ => rfl)) pa_nil)) (pe_callTy call_list_of (by rfl) gL (by decide +kernel) (pa_cons (pe_ix ix_tup (pv 3) pe_int (fun _ _ => rfl)) pa_nil))) (pe_callTy call_list_of (by rfl) gL (by decide +kernel) (pa_cons (pe_ix ix_tup (pv 3) pe_int (fun _ _ => rfl)) pa_nil))) (pa_cons (pv 1) (pa_cons (pv 2) pa_nil)))))) (pss_one (ps_if (pt_cmpR op_eq (pv 4) pe_str (nomark _)) (pss_one (ps_expr (pe_cc G hr (Nat.le_refl _) pass0 (pa_cons (pe_op op_cat (pe_lst (pa_cons (pe_ix ix_tup (pv 3) pe_int (fun _ _ => rfl)) pa_nil)) (pe_callTy call_list_of (by rfl) gL (by decide +kernel) (pa_cons (pe_ix ix_tup (pv 3) pe_int (fun _ _ => rfl)) pa_nil))) (pa_cons (pv 1) (pa_cons (pv 2) pa_nil)))))) (pss_one (ps_if (pt_cmpR op_eq (pv 4) pe_str (nomark _)) (pss_one (ps_expr (pe_cc G hr (Nat.le_refl _) pass0 (pa_cons (pe_op op_cat (pe_callTy call_list_of (by rfl) gL (by decide +kernel) (pa_cons (pe_ix ix_tup (pv 3) pe_int (fun _ _ => rfl)) pa_nil)) (pe_callTy call_list_of (by rfl) gL (by decide +kernel) (pa_cons (pe_ix ix_tup (pv 3) pe_int (fun _ _ => rfl)) pa_nil))) (pa_cons (pv 1) (pa_cons (pv 2) pa_nil)))))) (pss_one (ps_if (pt_cmpR op_eq (pv 4) pe_str (nomark _)) (pss_one (ps_expr (pe_cc G hr (Nat.le_refl _) pass0 (pa_cons (pe_op op_cat (pe_lst (pa_cons (pe_ix ix_tup (pv 3) pe_int (fun _ _ => rfl)) pa_nil)) (pe_callTy call_list_of (by rfl) gL (by decide +kernel) (pa_cons (pe_ix ix_tup (pv 3) pe_int (fun _ _ => rfl)) pa_nil))) (pa_cons (pv 1) (pa_cons (pv 2) pa_nil)))))) (pss_one (ps_if (pt_cmpR op_eq (pv 4) pe_str (nomark _)) (pss_one (ps_expr (pe_cc G hr (Nat.le_refl _) pass0 (pa_cons (pe_ix ix_tup (pv 3) pe_int (fun _ _ => rfl)) (pa_cons (pv 1) (pa_cons (pv 2) pa_nil)))))) (pss_one (ps_if (pt_cmpR op_eq (pv 4) pe_str (nomark _)) (pss_one (ps_expr (pe_cc G hr (Nat.le_refl _) pass0 (pa_cons (pe_ix ix_tup (pv 3) pe_int (fun _ _ => rfl)) (pa_cons (pv 1) (pa_cons (pv 2) pa_nil)))))) (pss_one (ps_if (pt_cmpR op_eq (pv 4) pe_str (nomark _)) (pss_one (ps_expr (pe_cc G hr (Nat.le_refl _) pass0 (pa_cons (pe_ix ix_tup (pv 3) pe_int (fun _ _ => rfl)) (pa_cons (pe_op op_cat (pv 1) (pe_callTy call_list_of (by rfl) gL (by decide +kernel) (pa_cons (pe_ix ix_tup (pv 3) pe_int (fun _ _ => rfl)) pa_nil))) (pa_cons (pv 2) pa_nil)))))) pss_nil)))))))))))))))))))), ?_⟩
    refine ⟨_, rfl, a, rfl, ⟨_, SqL.of ha⟩, ?_⟩
    refine for_list (xs := us) (fun i σ H1 => ∃ (v3 v4 v5 : Option V), σ = [some (.ref a), some (.ref hl), some (.ref fl), v3, v4, v5] ∧ SB fl H H1 ∧ H1 fl = some (.lst (wsV (wiL h (qs.take i) hid f0)))) ⟨none, none, none, rfl, SB.refl, hfl⟩ (fun i σ H1 _ ⟨_, _, _, _, s1, _⟩ => SqL.of (s1 _ _ hna ha)) ?_ ?_
    rotate_left
    · rintro σ H1 ⟨v3, v4, v5, rfl, s1, f1⟩
      rw [hul, List.take_length] at f1
      exact kq H1 s1 f1
    rintro i u σ H1 hu ⟨v3, v4, v5, rfl, s1, f1⟩
    obtain ⟨q, hq1, hat1⟩ := hat.get hu
    obtain ⟨gq, hh1, hn1⟩ := hqs q (List.mem_of_getElem? hq1)
    have t1 : Tups H H1 := s1.tups hfl
    replace hat1 := AtN.on t1 hat1
    have hl1 := s1 _ _ hne hhl
    have hst := sum_take_le qs hq1
    have hwl := wiL_len h (qs.take i) hid f0
    have et : qs.take (i + 1) = qs.take i ++ [q] := by rw [List.take_add_one, hq1]; rfl
    have kN0 : ∀ (v3 v4 v5 : V) (H7 : Hp), SB fl H1 H7 → H7 fl = some (.lst (wsV (wiS h hid (wiL h (qs.take i) hid f0) q))) → ∃ (w3 w4 w5 : Option V), [some (.ref a), some (.ref hl), some (.ref fl), some v3, some v4, some v5] = [some (.ref a), some (.ref hl), some (.ref fl), w3, w4, w5] ∧ SB fl H H7 ∧ H7 fl = some (.lst (wsV (wiL h (qs.take (i + 1)) hid f0))) := fun v3 v4 v5 H7 s7 f7 => ⟨_, _, _, rfl, s1.trans s7, by rw [et, wiL_snoc]; exact f7⟩
    have hfl0 : (wiL h (qs.take i) hid f0).length + nN q ≤ 3000 := by omega
    generalize wiL h (qs.take i) hid f0 = fi at f1 kN0 hfl0 hwl
    obtain ⟨pw, rest, hv, hpw, hc⟩ := name_word hat1 gq
    refine ⟨_, rfl, pw, _, _, _, hv, rfl, SqT.of hpw, atI_0, ?_⟩
    refine ⟨fun σ H2 => σ = [some (.ref a), some (.ref hl), some (.ref fl), some u, some (.str (wordN q)), some (nameV q)] ∧ H2 = H1, ?_, ?_⟩
    · rcases hc with ⟨c1, c2⟩ | ⟨c1, c2, c3⟩ | ⟨c1, c2, c3⟩
      · refine ⟨_, rfl, rfl, _, rfl, ?_⟩
        refine ite2 (fun _ => ?_) (fun c => absurd c1 c)
        exact ⟨_, rfl, pw, _, _, _, hv, rfl, SqT.of hpw, atI_nat (j := 1) (by simpa using c2), rfl, rfl⟩
      · refine ⟨_, rfl, rfl, _, rfl, ?_⟩
        refine ite2 (fun c => absurd (c1.symm.trans c) Bool.false_ne_true) (fun _ => ?_)
        refine ⟨_, rfl, rfl, _, rfl, ?_⟩
        refine ite2 (fun _ => ?_) (fun c => absurd c2 c)
        exact ⟨_, rfl, pw, _, _, _, hv, rfl, SqT.of hpw, atI_nat (j := 2) (by simpa using c3), rfl, rfl⟩
      · refine ⟨_, rfl, rfl, _, rfl, ?_⟩
        refine ite2 (fun c => absurd (c1.symm.trans c) Bool.false_ne_true) (fun _ => ?_)
        refine ⟨_, rfl, rfl, _, rfl, ?_⟩
        refine ite2 (fun c => absurd (c2.symm.trans c) Bool.false_ne_true) (fun _ => ?_)
        exact ⟨by rw [c3]; rfl, rfl⟩
    rintro σ H2 ⟨rfl, rfl⟩
    refine ⟨fun σ H4 => σ = [some (.ref a), some (.ref hl), some (.ref fl), some u, some (.str (wordN q)), some (nameV q)] ∧ SB fl H2 H4 ∧ H4 fl = some (.lst (wsV (addN q hid fi))), ?_, ?_⟩
    · cases ec : nameN q with
      | none =>
        have en : nameV q = .non := by unfold nameV; rw [ec]
        have ea : addN q hid fi = fi := by unfold addN; rw [ec]
        refine ⟨_, rfl, rfl, _, rfl, ?_⟩
        rw [en]
        refine ite2 (fun c => absurd c (by decide)) (fun _ => ?_)
        refine ite2 (fun c => absurd c (by decide)) (fun _ => ?_)
        exact ⟨rfl, SB.refl, by rw [ea]; exact f1⟩
      | some w =>
        have en : nameV q = .str (mk w) := by unfold nameV; rw [ec]
        refine ⟨_, rfl, rfl, _, rfl, ?_⟩
        rw [en]
        refine ite2 (fun _ => ?_) (fun c => absurd (by simp) c)
        refine ⟨_, rfl, _, rfl, hl, _, rfl, .inl (SqL.of hl1), rfl, flat_ws _, _, rfl, ?_⟩
        show if (!inV (.str (mk w)) (wsV hid)) = true then _ else _
        rw [in_ws]
        by_cases c1 : w ∈ hid
        · have ea : addN q hid fi = fi := by unfold addN; rw [ec]; exact if_pos (.inl c1)
          rw [decide_eq_true c1]
          refine ite2 (fun c => absurd c (by decide)) (fun _ => ?_)
          refine ite2 (fun c => absurd c (by decide)) (fun _ => ?_)
          exact ⟨rfl, SB.refl, by rw [ea]; exact f1⟩
        rw [decide_eq_false c1]
        refine ite2 (fun _ => ?_) (fun c => absurd rfl c)
        refine ⟨_, rfl, _, rfl, fl, _, rfl, .inl (SqL.of f1), rfl, flat_ws _, _, rfl, ?_⟩
        show if (!inV (.str (mk w)) (wsV fi)) = true then _ else _
        rw [in_ws]
        by_cases c2 : w ∈ fi
        · have ea : addN q hid fi = fi := by unfold addN; rw [ec]; exact if_pos (.inr c2)
          rw [decide_eq_true c2]
          refine ite2 (fun c => absurd c (by decide)) (fun _ => ?_)
          exact ⟨rfl, SB.refl, by rw [ea]; exact f1⟩
        have ea : addN q hid fi = fi ++ [w] := by unfold addN; rw [ec]; exact if_neg fun c => c.elim c1 c2
        rw [decide_eq_false c2]
        refine ite2 (fun _ => ?_) (fun c => absurd rfl c)
        refine ⟨_, rfl, .inl ⟨rfl, _, SqL.of f1⟩, _, rfl, fl, _, _, rfl, rfl, f1, by rw [wsV_len, sizeLine_eq]; omega, ?_⟩
        exact ⟨rfl, SB.upd _, by rw [ea, upd_same, ← wsV_app]; rfl⟩
    rintro σ H4 ⟨rfl, s4, f4⟩
    have t4 : Tups H2 H4 := s4.tups f1
    have hat4 := AtN.on t4 hat1
    have hl4 := s4 _ _ hne hl1
    have hal := addN_len q hid fi
    have hfl1 : (addN q hid fi).length + nN q ≤ 3001 := by omega
    have kN : ∀ (H7 : Hp), SB fl H4 H7 → H7 fl = some (.lst (wsV (wiH h (parts q) (hid ++ blkP q) (addN q hid fi)))) → _ := fun H7 s7 f7 => kN0 u (.str (wordN q)) (nameV q) H7 (s4.trans s7) f7
    have kL : ∀ (H7 : Hp), parts q = [] → Same H4 H7 → _ := fun H7 e s7 => kN H7 (SB.same s7) (by rw [e, wiH_nil]; exact s7 _ _ f4)
    replace s4 := s1.trans s4
    clear hat1 hpw hv hc kN0 t4 t1
    cases q with
    | e x =>
      cases x with
      | num n =>
        obtain ⟨p, rfl, hp⟩ := hat4
        rw [show wordN (.e (.num n)) = Str.ofString "number" from rfl]
        refine in_test4 (zs := [V.str (Str.ofString "set"), V.str (Str.ofString "setfield")]) rfl (fun _ _ q => q) (by show 2 ≤ sizeLine; decide) rfl (b := false) (by decide +kernel) fun H11 s11 => ?_
        refine iteF ?_
        refine in_test4 (zs := [V.str (Str.ofString "do"), V.str (Str.ofString "say"), V.str (Str.ofString "return"), V.str (Str.ofString "raise")]) rfl (fun _ _ q => q) (by show 4 ≤ sizeLine; decide) rfl (b := false) (by decide +kernel) fun H12 s12 => ?_
        refine iteF ?_
        refine ⟨_, rfl, rfl, _, rfl, ?_⟩
        refine ite2 (fun c => absurd c (by decide +kernel)) (fun _ => ?_)
        refine ⟨_, rfl, rfl, _, rfl, ?_⟩
        refine ite2 (fun c => absurd c (by decide +kernel)) (fun _ => ?_)
        refine ⟨_, rfl, rfl, _, rfl, ?_⟩
        refine ite2 (fun c => absurd c (by decide +kernel)) (fun _ => ?_)
        refine ⟨_, rfl, rfl, _, rfl, ?_⟩
        refine ite2 (fun c => absurd c (by decide +kernel)) (fun _ => ?_)
        refine ⟨_, rfl, rfl, _, rfl, ?_⟩
        refine ite2 (fun c => absurd c (by decide +kernel)) (fun _ => ?_)
        refine ⟨_, rfl, rfl, _, rfl, ?_⟩
        refine ite2 (fun c => absurd c (by decide +kernel)) (fun _ => ?_)
        refine ⟨_, rfl, rfl, _, rfl, ?_⟩
        refine ite2 (fun c => absurd c (by decide +kernel)) (fun _ => ?_)
        have sA := (((Same.refl H4).trans s11).trans s12)
        exact kL _ rfl sA
      | txt z =>
        obtain ⟨p, rfl, hp⟩ := hat4
        rw [show wordN (.e (.txt z)) = Str.ofString "text" from rfl]
        refine in_test4 (zs := [V.str (Str.ofString "set"), V.str (Str.ofString "setfield")]) rfl (fun _ _ q => q) (by show 2 ≤ sizeLine; decide) rfl (b := false) (by decide +kernel) fun H11 s11 => ?_
        refine iteF ?_
        refine in_test4 (zs := [V.str (Str.ofString "do"), V.str (Str.ofString "say"), V.str (Str.ofString "return"), V.str (Str.ofString "raise")]) rfl (fun _ _ q => q) (by show 4 ≤ sizeLine; decide) rfl (b := false) (by decide +kernel) fun H12 s12 => ?_
        refine iteF ?_
        refine ⟨_, rfl, rfl, _, rfl, ?_⟩
        refine ite2 (fun c => absurd c (by decide +kernel)) (fun _ => ?_)
        refine ⟨_, rfl, rfl, _, rfl, ?_⟩
        refine ite2 (fun c => absurd c (by decide +kernel)) (fun _ => ?_)
        refine ⟨_, rfl, rfl, _, rfl, ?_⟩
        refine ite2 (fun c => absurd c (by decide +kernel)) (fun _ => ?_)
        refine ⟨_, rfl, rfl, _, rfl, ?_⟩
        refine ite2 (fun c => absurd c (by decide +kernel)) (fun _ => ?_)
        refine ⟨_, rfl, rfl, _, rfl, ?_⟩
        refine ite2 (fun c => absurd c (by decide +kernel)) (fun _ => ?_)
        refine ⟨_, rfl, rfl, _, rfl, ?_⟩
        refine ite2 (fun c => absurd c (by decide +kernel)) (fun _ => ?_)
        refine ⟨_, rfl, rfl, _, rfl, ?_⟩
        refine ite2 (fun c => absurd c (by decide +kernel)) (fun _ => ?_)
        have sA := (((Same.refl H4).trans s11).trans s12)
        exact kL _ rfl sA
      | tru b =>
        obtain ⟨p, rfl, hp⟩ := hat4
        rw [show wordN (.e (.tru b)) = Str.ofString "truth" from rfl]
        refine in_test4 (zs := [V.str (Str.ofString "set"), V.str (Str.ofString "setfield")]) rfl (fun _ _ q => q) (by show 2 ≤ sizeLine; decide) rfl (b := false) (by decide +kernel) fun H11 s11 => ?_
        refine iteF ?_
        refine in_test4 (zs := [V.str (Str.ofString "do"), V.str (Str.ofString "say"), V.str (Str.ofString "return"), V.str (Str.ofString "raise")]) rfl (fun _ _ q => q) (by show 4 ≤ sizeLine; decide) rfl (b := false) (by decide +kernel) fun H12 s12 => ?_
        refine iteF ?_
        refine ⟨_, rfl, rfl, _, rfl, ?_⟩
        refine ite2 (fun c => absurd c (by decide +kernel)) (fun _ => ?_)
        refine ⟨_, rfl, rfl, _, rfl, ?_⟩
        refine ite2 (fun c => absurd c (by decide +kernel)) (fun _ => ?_)
        refine ⟨_, rfl, rfl, _, rfl, ?_⟩
        refine ite2 (fun c => absurd c (by decide +kernel)) (fun _ => ?_)
        refine ⟨_, rfl, rfl, _, rfl, ?_⟩
        refine ite2 (fun c => absurd c (by decide +kernel)) (fun _ => ?_)
        refine ⟨_, rfl, rfl, _, rfl, ?_⟩
        refine ite2 (fun c => absurd c (by decide +kernel)) (fun _ => ?_)
        refine ⟨_, rfl, rfl, _, rfl, ?_⟩
        refine ite2 (fun c => absurd c (by decide +kernel)) (fun _ => ?_)
        refine ⟨_, rfl, rfl, _, rfl, ?_⟩
        refine ite2 (fun c => absurd c (by decide +kernel)) (fun _ => ?_)
        have sA := (((Same.refl H4).trans s11).trans s12)
        exact kL _ rfl sA
      | non =>
        obtain ⟨p, rfl, hp⟩ := hat4
        rw [show wordN (.e (.non)) = Str.ofString "none" from rfl]
        refine in_test4 (zs := [V.str (Str.ofString "set"), V.str (Str.ofString "setfield")]) rfl (fun _ _ q => q) (by show 2 ≤ sizeLine; decide) rfl (b := false) (by decide +kernel) fun H11 s11 => ?_
        refine iteF ?_
        refine in_test4 (zs := [V.str (Str.ofString "do"), V.str (Str.ofString "say"), V.str (Str.ofString "return"), V.str (Str.ofString "raise")]) rfl (fun _ _ q => q) (by show 4 ≤ sizeLine; decide) rfl (b := false) (by decide +kernel) fun H12 s12 => ?_
        refine iteF ?_
        refine ⟨_, rfl, rfl, _, rfl, ?_⟩
        refine ite2 (fun c => absurd c (by decide +kernel)) (fun _ => ?_)
        refine ⟨_, rfl, rfl, _, rfl, ?_⟩
        refine ite2 (fun c => absurd c (by decide +kernel)) (fun _ => ?_)
        refine ⟨_, rfl, rfl, _, rfl, ?_⟩
        refine ite2 (fun c => absurd c (by decide +kernel)) (fun _ => ?_)
        refine ⟨_, rfl, rfl, _, rfl, ?_⟩
        refine ite2 (fun c => absurd c (by decide +kernel)) (fun _ => ?_)
        refine ⟨_, rfl, rfl, _, rfl, ?_⟩
        refine ite2 (fun c => absurd c (by decide +kernel)) (fun _ => ?_)
        refine ⟨_, rfl, rfl, _, rfl, ?_⟩
        refine ite2 (fun c => absurd c (by decide +kernel)) (fun _ => ?_)
        refine ⟨_, rfl, rfl, _, rfl, ?_⟩
        refine ite2 (fun c => absurd c (by decide +kernel)) (fun _ => ?_)
        have sA := (((Same.refl H4).trans s11).trans s12)
        exact kL _ rfl sA
      | slf =>
        obtain ⟨p, rfl, hp⟩ := hat4
        rw [show wordN (.e (.slf)) = Str.ofString "self" from rfl]
        refine in_test4 (zs := [V.str (Str.ofString "set"), V.str (Str.ofString "setfield")]) rfl (fun _ _ q => q) (by show 2 ≤ sizeLine; decide) rfl (b := false) (by decide +kernel) fun H11 s11 => ?_
        refine iteF ?_
        refine in_test4 (zs := [V.str (Str.ofString "do"), V.str (Str.ofString "say"), V.str (Str.ofString "return"), V.str (Str.ofString "raise")]) rfl (fun _ _ q => q) (by show 4 ≤ sizeLine; decide) rfl (b := false) (by decide +kernel) fun H12 s12 => ?_
        refine iteF ?_
        refine ⟨_, rfl, rfl, _, rfl, ?_⟩
        refine ite2 (fun c => absurd c (by decide +kernel)) (fun _ => ?_)
        refine ⟨_, rfl, rfl, _, rfl, ?_⟩
        refine ite2 (fun c => absurd c (by decide +kernel)) (fun _ => ?_)
        refine ⟨_, rfl, rfl, _, rfl, ?_⟩
        refine ite2 (fun c => absurd c (by decide +kernel)) (fun _ => ?_)
        refine ⟨_, rfl, rfl, _, rfl, ?_⟩
        refine ite2 (fun c => absurd c (by decide +kernel)) (fun _ => ?_)
        refine ⟨_, rfl, rfl, _, rfl, ?_⟩
        refine ite2 (fun c => absurd c (by decide +kernel)) (fun _ => ?_)
        refine ⟨_, rfl, rfl, _, rfl, ?_⟩
        refine ite2 (fun c => absurd c (by decide +kernel)) (fun _ => ?_)
        refine ⟨_, rfl, rfl, _, rfl, ?_⟩
        refine ite2 (fun c => absurd c (by decide +kernel)) (fun _ => ?_)
        have sA := (((Same.refl H4).trans s11).trans s12)
        exact kL _ rfl sA
      | nam z =>
        obtain ⟨p, rfl, hp⟩ := hat4
        rw [show wordN (.e (.nam z)) = Str.ofString "name" from rfl]
        refine in_test4 (zs := [V.str (Str.ofString "set"), V.str (Str.ofString "setfield")]) rfl (fun _ _ q => q) (by show 2 ≤ sizeLine; decide) rfl (b := false) (by decide +kernel) fun H11 s11 => ?_
        refine iteF ?_
        refine in_test4 (zs := [V.str (Str.ofString "do"), V.str (Str.ofString "say"), V.str (Str.ofString "return"), V.str (Str.ofString "raise")]) rfl (fun _ _ q => q) (by show 4 ≤ sizeLine; decide) rfl (b := false) (by decide +kernel) fun H12 s12 => ?_
        refine iteF ?_
        refine ⟨_, rfl, rfl, _, rfl, ?_⟩
        refine ite2 (fun c => absurd c (by decide +kernel)) (fun _ => ?_)
        refine ⟨_, rfl, rfl, _, rfl, ?_⟩
        refine ite2 (fun c => absurd c (by decide +kernel)) (fun _ => ?_)
        refine ⟨_, rfl, rfl, _, rfl, ?_⟩
        refine ite2 (fun c => absurd c (by decide +kernel)) (fun _ => ?_)
        refine ⟨_, rfl, rfl, _, rfl, ?_⟩
        refine ite2 (fun c => absurd c (by decide +kernel)) (fun _ => ?_)
        refine ⟨_, rfl, rfl, _, rfl, ?_⟩
        refine ite2 (fun c => absurd c (by decide +kernel)) (fun _ => ?_)
        refine ⟨_, rfl, rfl, _, rfl, ?_⟩
        refine ite2 (fun c => absurd c (by decide +kernel)) (fun _ => ?_)
        refine ⟨_, rfl, rfl, _, rfl, ?_⟩
        refine ite2 (fun c => absurd c (by decide +kernel)) (fun _ => ?_)
        have sA := (((Same.refl H4).trans s11).trans s12)
        exact kL _ rfl sA
      | fld z =>
        obtain ⟨p, rfl, hp⟩ := hat4
        rw [show wordN (.e (.fld z)) = Str.ofString "field" from rfl]
        refine in_test4 (zs := [V.str (Str.ofString "set"), V.str (Str.ofString "setfield")]) rfl (fun _ _ q => q) (by show 2 ≤ sizeLine; decide) rfl (b := false) (by decide +kernel) fun H11 s11 => ?_
        refine iteF ?_
        refine in_test4 (zs := [V.str (Str.ofString "do"), V.str (Str.ofString "say"), V.str (Str.ofString "return"), V.str (Str.ofString "raise")]) rfl (fun _ _ q => q) (by show 4 ≤ sizeLine; decide) rfl (b := false) (by decide +kernel) fun H12 s12 => ?_
        refine iteF ?_
        refine ⟨_, rfl, rfl, _, rfl, ?_⟩
        refine ite2 (fun c => absurd c (by decide +kernel)) (fun _ => ?_)
        refine ⟨_, rfl, rfl, _, rfl, ?_⟩
        refine ite2 (fun c => absurd c (by decide +kernel)) (fun _ => ?_)
        refine ⟨_, rfl, rfl, _, rfl, ?_⟩
        refine ite2 (fun c => absurd c (by decide +kernel)) (fun _ => ?_)
        refine ⟨_, rfl, rfl, _, rfl, ?_⟩
        refine ite2 (fun c => absurd c (by decide +kernel)) (fun _ => ?_)
        refine ⟨_, rfl, rfl, _, rfl, ?_⟩
        refine ite2 (fun c => absurd c (by decide +kernel)) (fun _ => ?_)
        refine ⟨_, rfl, rfl, _, rfl, ?_⟩
        refine ite2 (fun c => absurd c (by decide +kernel)) (fun _ => ?_)
        refine ⟨_, rfl, rfl, _, rfl, ?_⟩
        refine ite2 (fun c => absurd c (by decide +kernel)) (fun _ => ?_)
        have sA := (((Same.refl H4).trans s11).trans s12)
        exact kL _ rfl sA
      | new z =>
        obtain ⟨p, rfl, hp⟩ := hat4
        rw [show wordN (.e (.new z)) = Str.ofString "new" from rfl]
        refine in_test4 (zs := [V.str (Str.ofString "set"), V.str (Str.ofString "setfield")]) rfl (fun _ _ q => q) (by show 2 ≤ sizeLine; decide) rfl (b := false) (by decide +kernel) fun H11 s11 => ?_
        refine iteF ?_
        refine in_test4 (zs := [V.str (Str.ofString "do"), V.str (Str.ofString "say"), V.str (Str.ofString "return"), V.str (Str.ofString "raise")]) rfl (fun _ _ q => q) (by show 4 ≤ sizeLine; decide) rfl (b := false) (by decide +kernel) fun H12 s12 => ?_
        refine iteF ?_
        refine ⟨_, rfl, rfl, _, rfl, ?_⟩
        refine ite2 (fun c => absurd c (by decide +kernel)) (fun _ => ?_)
        refine ⟨_, rfl, rfl, _, rfl, ?_⟩
        refine ite2 (fun c => absurd c (by decide +kernel)) (fun _ => ?_)
        refine ⟨_, rfl, rfl, _, rfl, ?_⟩
        refine ite2 (fun c => absurd c (by decide +kernel)) (fun _ => ?_)
        refine ⟨_, rfl, rfl, _, rfl, ?_⟩
        refine ite2 (fun c => absurd c (by decide +kernel)) (fun _ => ?_)
        refine ⟨_, rfl, rfl, _, rfl, ?_⟩
        refine ite2 (fun c => absurd c (by decide +kernel)) (fun _ => ?_)
        refine ⟨_, rfl, rfl, _, rfl, ?_⟩
        refine ite2 (fun c => absurd c (by decide +kernel)) (fun _ => ?_)
        refine ⟨_, rfl, rfl, _, rfl, ?_⟩
        refine ite2 (fun c => absurd c (by decide +kernel)) (fun _ => ?_)
        have sA := (((Same.refl H4).trans s11).trans s12)
        exact kL _ rfl sA
      | send r m es =>
        obtain ⟨p, vr, q, xs, rfl, hp, hq, h3, h4⟩ := hat4
        rw [show wordN (.e (.send r m es)) = Str.ofString "send" from rfl]
        refine in_test4 (zs := [V.str (Str.ofString "set"), V.str (Str.ofString "setfield")]) rfl (fun _ _ q => q) (by show 2 ≤ sizeLine; decide) rfl (b := false) (by decide +kernel) fun H11 s11 => ?_
        refine iteF ?_
        refine in_test4 (zs := [V.str (Str.ofString "do"), V.str (Str.ofString "say"), V.str (Str.ofString "return"), V.str (Str.ofString "raise")]) rfl (fun _ _ q => q) (by show 4 ≤ sizeLine; decide) rfl (b := false) (by decide +kernel) fun H12 s12 => ?_
        refine iteF ?_
        refine ⟨_, rfl, rfl, _, rfl, ?_⟩
        refine ite2 (fun c => absurd c (by decide +kernel)) (fun _ => ?_)
        refine ⟨_, rfl, rfl, _, rfl, ?_⟩
        refine ite2 (fun c => absurd c (by decide +kernel)) (fun _ => ?_)
        refine ⟨_, rfl, rfl, _, rfl, ?_⟩
        refine ite2 (fun c => absurd c (by decide +kernel)) (fun _ => ?_)
        refine ⟨_, rfl, rfl, _, rfl, ?_⟩
        refine ite2 (fun _ => ?_) (fun c => absurd (by decide +kernel) c)
        have sA := (((Same.refl H4).trans s11).trans s12)
        have hx := atl_exl h4
        have hxl := hx.len
        have hl_ := exl_len es
        have hn_ : 1 + nE r + nEs es ≤ 1000 := hn1
        refine ⟨_, rfl, p, _, _, _, rfl, rfl, SqT.of (sA _ _ hp), atI_nat (j := 1) rfl, by show 1 ≤ sizeLine; decide, fun L1 hL1 => ?_⟩
        have u1 := same_new hL1 (.lst [vr])
        refine ⟨_, rfl, p, _, _, _, rfl, rfl, SqT.of (u1 _ _ (sA _ _ hp)), atI_nat (j := 3) rfl, q, _, rfl, .inr (SqT.of (u1 _ _ (sA _ _ hq))), fun L2 hL2 => ?_⟩
        have u2 := same_new hL2 (.lst xs)
        refine ⟨_, _, _, _, rfl, rfl, u2 _ _ upd_same, upd_same, by rw [sizeLine_eq]; show 1 + _ ≤ _; omega, fun L3 hL3 => ?_⟩
        have u3 := ((sA.trans u1).trans u2).trans (same_new hL3 (.lst ([vr] ++ xs)))
        refine ⟨_, rfl, _, rfl, ?_⟩
        obtain ⟨c1, c2, c3, c4, c5⟩ := kc H4 _ (.e (.send r m es)) _ u3 f4 gq (by show 2 ≤ 2 * oE (.send r m es) + 1; have : oE (.send r m es) = 1 + max (oE r) (oEs es) := rfl; omega) hh1 hn1 hfl1
        exact ⟨L3, parts (.e (.send r m es)), _, hl, fl, hid ++ blkP (.e (.send r m es)), _, c1, rfl, (.inl ⟨upd_same, ne_free (((sA.trans u1).trans u2) _ _ f4) hL3⟩), ⟨vr, xs, rfl, AtE.on (same_tups u3) _ _ h3, AtL.on (same_tups u3) (fun _ _ h => AtN.on (same_tups u3) h) hx⟩, c2, (by rw [show hid ++ blkP _ = hid from List.append_nil _]; exact u3 _ _ hl4), hne, c3, c4, c5, fun H7 s7 f7 => kN H7 ((SB.same u3).trans s7) f7⟩
      | up m es =>
        obtain ⟨p, q, xs, rfl, hp, hq, h4⟩ := hat4
        rw [show wordN (.e (.up m es)) = Str.ofString "up" from rfl]
        refine in_test4 (zs := [V.str (Str.ofString "set"), V.str (Str.ofString "setfield")]) rfl (fun _ _ q => q) (by show 2 ≤ sizeLine; decide) rfl (b := false) (by decide +kernel) fun H11 s11 => ?_
        refine iteF ?_
        refine in_test4 (zs := [V.str (Str.ofString "do"), V.str (Str.ofString "say"), V.str (Str.ofString "return"), V.str (Str.ofString "raise")]) rfl (fun _ _ q => q) (by show 4 ≤ sizeLine; decide) rfl (b := false) (by decide +kernel) fun H12 s12 => ?_
        refine iteF ?_
        refine ⟨_, rfl, rfl, _, rfl, ?_⟩
        refine ite2 (fun c => absurd c (by decide +kernel)) (fun _ => ?_)
        refine ⟨_, rfl, rfl, _, rfl, ?_⟩
        refine ite2 (fun c => absurd c (by decide +kernel)) (fun _ => ?_)
        refine ⟨_, rfl, rfl, _, rfl, ?_⟩
        refine ite2 (fun c => absurd c (by decide +kernel)) (fun _ => ?_)
        refine ⟨_, rfl, rfl, _, rfl, ?_⟩
        refine ite2 (fun c => absurd c (by decide +kernel)) (fun _ => ?_)
        refine ⟨_, rfl, rfl, _, rfl, ?_⟩
        refine ite2 (fun _ => ?_) (fun c => absurd (by decide +kernel) c)
        have sA := (((Same.refl H4).trans s11).trans s12)
        refine ⟨_, rfl, p, _, _, _, rfl, rfl, SqT.of (sA _ _ hp), atI_nat (j := 2) rfl, ?_⟩
        refine ⟨_, rfl, _, rfl, ?_⟩
        obtain ⟨c1, c2, c3, c4, c5⟩ := kc H4 _ (.e (.up m es)) _ sA f4 gq (by show 2 ≤ 2 * oE (.up m es) + 1; have : oE (.up m es) = 1 + oEs es := rfl; omega) hh1 hn1 hfl1
        exact ⟨q, parts (.e (.up m es)), _, hl, fl, hid ++ blkP (.e (.up m es)), _, c1, rfl, (.inr (sA _ _ hq)), (AtL.on (same_tups sA) (fun _ _ h => AtN.on (same_tups sA) h) (atl_exl h4)), c2, (by rw [show hid ++ blkP _ = hid from List.append_nil _]; exact sA _ _ hl4), hne, c3, c4, c5, fun H7 s7 f7 => kN H7 ((SB.same sA).trans s7) f7⟩
      | lst es =>
        obtain ⟨p, q, xs, rfl, hp, hq, h4⟩ := hat4
        rw [show wordN (.e (.lst es)) = Str.ofString "list" from rfl]
        refine in_test4 (zs := [V.str (Str.ofString "set"), V.str (Str.ofString "setfield")]) rfl (fun _ _ q => q) (by show 2 ≤ sizeLine; decide) rfl (b := false) (by decide +kernel) fun H11 s11 => ?_
        refine iteF ?_
        refine in_test4 (zs := [V.str (Str.ofString "do"), V.str (Str.ofString "say"), V.str (Str.ofString "return"), V.str (Str.ofString "raise")]) rfl (fun _ _ q => q) (by show 4 ≤ sizeLine; decide) rfl (b := false) (by decide +kernel) fun H12 s12 => ?_
        refine iteF ?_
        refine ⟨_, rfl, rfl, _, rfl, ?_⟩
        refine ite2 (fun c => absurd c (by decide +kernel)) (fun _ => ?_)
        refine ⟨_, rfl, rfl, _, rfl, ?_⟩
        refine ite2 (fun c => absurd c (by decide +kernel)) (fun _ => ?_)
        refine ⟨_, rfl, rfl, _, rfl, ?_⟩
        refine ite2 (fun c => absurd c (by decide +kernel)) (fun _ => ?_)
        refine ⟨_, rfl, rfl, _, rfl, ?_⟩
        refine ite2 (fun c => absurd c (by decide +kernel)) (fun _ => ?_)
        refine ⟨_, rfl, rfl, _, rfl, ?_⟩
        refine ite2 (fun c => absurd c (by decide +kernel)) (fun _ => ?_)
        refine ⟨_, rfl, rfl, _, rfl, ?_⟩
        refine ite2 (fun _ => ?_) (fun c => absurd (by decide +kernel) c)
        have sA := (((Same.refl H4).trans s11).trans s12)
        refine ⟨_, rfl, p, _, _, _, rfl, rfl, SqT.of (sA _ _ hp), atI_nat (j := 1) rfl, ?_⟩
        refine ⟨_, rfl, _, rfl, ?_⟩
        obtain ⟨c1, c2, c3, c4, c5⟩ := kc H4 _ (.e (.lst es)) _ sA f4 gq (by show 2 ≤ 2 * oE (.lst es) + 1; have : oE (.lst es) = 1 + oEs es := rfl; omega) hh1 hn1 hfl1
        exact ⟨q, parts (.e (.lst es)), _, hl, fl, hid ++ blkP (.e (.lst es)), _, c1, rfl, (.inr (sA _ _ hq)), (AtL.on (same_tups sA) (fun _ _ h => AtN.on (same_tups sA) h) (atl_exl h4)), c2, (by rw [show hid ++ blkP _ = hid from List.append_nil _]; exact sA _ _ hl4), hne, c3, c4, c5, fun H7 s7 f7 => kN H7 ((SB.same sA).trans s7) f7⟩
      | blk ps ss =>
        obtain ⟨p, vw, q, xs, rfl, hp, hq, hw, h4⟩ := hat4
        rw [show wordN (.e (.blk ps ss)) = Str.ofString "block" from rfl]
        refine in_test4 (zs := [V.str (Str.ofString "set"), V.str (Str.ofString "setfield")]) rfl (fun _ _ q => q) (by show 2 ≤ sizeLine; decide) rfl (b := false) (by decide +kernel) fun H11 s11 => ?_
        refine iteF ?_
        refine in_test4 (zs := [V.str (Str.ofString "do"), V.str (Str.ofString "say"), V.str (Str.ofString "return"), V.str (Str.ofString "raise")]) rfl (fun _ _ q => q) (by show 4 ≤ sizeLine; decide) rfl (b := false) (by decide +kernel) fun H12 s12 => ?_
        refine iteF ?_
        refine ⟨_, rfl, rfl, _, rfl, ?_⟩
        refine ite2 (fun c => absurd c (by decide +kernel)) (fun _ => ?_)
        refine ⟨_, rfl, rfl, _, rfl, ?_⟩
        refine ite2 (fun c => absurd c (by decide +kernel)) (fun _ => ?_)
        refine ⟨_, rfl, rfl, _, rfl, ?_⟩
        refine ite2 (fun c => absurd c (by decide +kernel)) (fun _ => ?_)
        refine ⟨_, rfl, rfl, _, rfl, ?_⟩
        refine ite2 (fun c => absurd c (by decide +kernel)) (fun _ => ?_)
        refine ⟨_, rfl, rfl, _, rfl, ?_⟩
        refine ite2 (fun c => absurd c (by decide +kernel)) (fun _ => ?_)
        refine ⟨_, rfl, rfl, _, rfl, ?_⟩
        refine ite2 (fun c => absurd c (by decide +kernel)) (fun _ => ?_)
        refine ⟨_, rfl, rfl, _, rfl, ?_⟩
        refine ite2 (fun _ => ?_) (fun c => absurd (by decide +kernel) c)
        have sA := (((Same.refl H4).trans s11).trans s12)
        obtain ⟨pw2, rfl, hpw2⟩ := hw
        have hps : ps.length ≤ 10 := gq.1
        refine ⟨_, rfl, p, _, _, _, rfl, rfl, SqT.of (sA _ _ hp), atI_nat (j := 2) rfl, ?_⟩
        refine ⟨_, rfl, _, rfl, p, _, _, _, rfl, rfl, SqT.of (sA _ _ hp), atI_nat (j := 1) rfl, pw2, _, rfl, .inr (SqT.of (sA _ _ hpw2)), fun L1 hL1 => ?_⟩
        have u1 := sA.trans (same_new hL1 (.lst (wsV ps)))
        refine ⟨_, _, _, _, rfl, rfl, u1 _ _ hl4, upd_same, by rw [wsV_len, wsV_len, sizeLine_eq]; omega, fun L2 hL2 => ?_⟩
        have u2 := u1.trans (same_new hL2 (.lst (wsV hid ++ wsV ps)))
        refine ⟨_, rfl, ?_⟩
        obtain ⟨c1, c2, c3, c4, c5⟩ := kc H4 _ (.e (.blk ps ss)) _ u2 f4 gq (by show 2 ≤ 2 * oE (.blk ps ss) + 1; have : oE (.blk ps ss) = 1 + oSs ss := rfl; omega) hh1 hn1 hfl1
        exact ⟨q, parts (.e (.blk ps ss)), _, L2, fl, hid ++ blkP (.e (.blk ps ss)), _, c1, rfl, (.inr (u2 _ _ hq)), (AtL.on (same_tups u2) (fun _ _ h => AtN.on (same_tups u2) h) (atl_stl h4)), c2, (by rw [upd_same, wsV_app]; rfl), (ne_free (u1 _ _ f4) hL2), c3, c4, c5, fun H7 s7 f7 => kN H7 ((SB.same u2).trans s7) f7⟩
    | s x =>
      cases x with
      | set z e =>
        obtain ⟨p, ve, rfl, hp, he⟩ := hat4
        rw [show wordN (.s (.set z e)) = Str.ofString "set" from rfl]
        refine in_test4 (zs := [V.str (Str.ofString "set"), V.str (Str.ofString "setfield")]) rfl (fun _ _ q => q) (by show 2 ≤ sizeLine; decide) rfl (b := true) (by decide +kernel) fun H11 s11 => ?_
        refine iteT ?_
        have sA := ((Same.refl H4).trans s11)
        refine ⟨_, rfl, p, _, _, _, rfl, rfl, SqT.of (sA _ _ hp), atI_nat (j := 2) rfl, by show 1 ≤ sizeLine; decide, fun L hL => ?_⟩
        have uA := sA.trans (same_new hL (.lst [ve]))
        refine ⟨_, rfl, _, rfl, ?_⟩
        obtain ⟨c1, c2, c3, c4, c5⟩ := kc H4 _ (.s (.set z e)) _ uA f4 gq (by show 2 ≤ 2 * _ + 2; omega) hh1 hn1 hfl1
        exact ⟨L, parts (.s (.set z e)), _, hl, fl, hid ++ blkP (.s (.set z e)), _, c1, rfl, (.inl ⟨upd_same, ne_free (sA _ _ f4) hL⟩), ⟨_, [], rfl, AtE.on (same_tups uA) _ _ he, rfl⟩, c2, (by rw [show hid ++ blkP _ = hid from List.append_nil _]; exact uA _ _ hl4), hne, c3, c4, c5, fun H7 s7 f7 => kN H7 ((SB.same uA).trans s7) f7⟩
      | sfl z e =>
        obtain ⟨p, ve, rfl, hp, he⟩ := hat4
        rw [show wordN (.s (.sfl z e)) = Str.ofString "setfield" from rfl]
        refine in_test4 (zs := [V.str (Str.ofString "set"), V.str (Str.ofString "setfield")]) rfl (fun _ _ q => q) (by show 2 ≤ sizeLine; decide) rfl (b := true) (by decide +kernel) fun H11 s11 => ?_
        refine iteT ?_
        have sA := ((Same.refl H4).trans s11)
        refine ⟨_, rfl, p, _, _, _, rfl, rfl, SqT.of (sA _ _ hp), atI_nat (j := 2) rfl, by show 1 ≤ sizeLine; decide, fun L hL => ?_⟩
        have uA := sA.trans (same_new hL (.lst [ve]))
        refine ⟨_, rfl, _, rfl, ?_⟩
        obtain ⟨c1, c2, c3, c4, c5⟩ := kc H4 _ (.s (.sfl z e)) _ uA f4 gq (by show 2 ≤ 2 * _ + 2; omega) hh1 hn1 hfl1
        exact ⟨L, parts (.s (.sfl z e)), _, hl, fl, hid ++ blkP (.s (.sfl z e)), _, c1, rfl, (.inl ⟨upd_same, ne_free (sA _ _ f4) hL⟩), ⟨_, [], rfl, AtE.on (same_tups uA) _ _ he, rfl⟩, c2, (by rw [show hid ++ blkP _ = hid from List.append_nil _]; exact uA _ _ hl4), hne, c3, c4, c5, fun H7 s7 f7 => kN H7 ((SB.same uA).trans s7) f7⟩
      | pl z e =>
        obtain ⟨p, ve, rfl, hp, he⟩ := hat4
        have hpl : inV (.str (mk z)) [V.str (Str.ofString "set"), V.str (Str.ofString "setfield")] = false ∧ inV (.str (mk z)) [V.str (Str.ofString "do"), V.str (Str.ofString "say"), V.str (Str.ofString "return"), V.str (Str.ofString "raise")] = true := by
          have hz : isPl z = true := gq.1
          rcases pl_cases hz with h | h | h | h <;> (rw [h, mk_tl]; decide +kernel)
        rw [show wordN (.s (.pl z e)) = mk z from rfl]
        refine in_test4 (zs := [V.str (Str.ofString "set"), V.str (Str.ofString "setfield")]) rfl (fun _ _ q => q) (by show 2 ≤ sizeLine; decide) rfl (b := false) (hpl.1) fun H11 s11 => ?_
        refine iteF ?_
        refine in_test4 (zs := [V.str (Str.ofString "do"), V.str (Str.ofString "say"), V.str (Str.ofString "return"), V.str (Str.ofString "raise")]) rfl (fun _ _ q => q) (by show 4 ≤ sizeLine; decide) rfl (b := true) (hpl.2) fun H12 s12 => ?_
        refine iteT ?_
        have sA := (((Same.refl H4).trans s11).trans s12)
        refine ⟨_, rfl, p, _, _, _, rfl, rfl, SqT.of (sA _ _ hp), atI_nat (j := 1) rfl, by show 1 ≤ sizeLine; decide, fun L hL => ?_⟩
        have uA := sA.trans (same_new hL (.lst [ve]))
        refine ⟨_, rfl, _, rfl, ?_⟩
        obtain ⟨c1, c2, c3, c4, c5⟩ := kc H4 _ (.s (.pl z e)) _ uA f4 gq (by show 2 ≤ 2 * _ + 2; omega) hh1 hn1 hfl1
        exact ⟨L, parts (.s (.pl z e)), _, hl, fl, hid ++ blkP (.s (.pl z e)), _, c1, rfl, (.inl ⟨upd_same, ne_free (sA _ _ f4) hL⟩), ⟨_, [], rfl, AtE.on (same_tups uA) _ _ he, rfl⟩, c2, (by rw [show hid ++ blkP _ = hid from List.append_nil _]; exact uA _ _ hl4), hne, c3, c4, c5, fun H7 s7 f7 => kN H7 ((SB.same uA).trans s7) f7⟩
      | iff e a_ b =>
        obtain ⟨p, ve, q, xs, r, ys, rfl, hp, hq, hr_, h5, h6, h7⟩ := hat4
        rw [show wordN (.s (.iff e a_ b)) = Str.ofString "if" from rfl]
        refine in_test4 (zs := [V.str (Str.ofString "set"), V.str (Str.ofString "setfield")]) rfl (fun _ _ q => q) (by show 2 ≤ sizeLine; decide) rfl (b := false) (by decide +kernel) fun H11 s11 => ?_
        refine iteF ?_
        refine in_test4 (zs := [V.str (Str.ofString "do"), V.str (Str.ofString "say"), V.str (Str.ofString "return"), V.str (Str.ofString "raise")]) rfl (fun _ _ q => q) (by show 4 ≤ sizeLine; decide) rfl (b := false) (by decide +kernel) fun H12 s12 => ?_
        refine iteF ?_
        refine ⟨_, rfl, rfl, _, rfl, ?_⟩
        refine ite2 (fun _ => ?_) (fun c => absurd (by decide +kernel) c)
        have sA := (((Same.refl H4).trans s11).trans s12)
        have hx := atl_stl h6
        have hxl := hx.len
        have hb := atl_stl h7
        have hbl := hb.len
        have la := stl_len a_
        have lb := stl_len b
        have hn_ : 1 + nE e + nSs a_ + nSs b ≤ 1000 := hn1
        refine ⟨_, rfl, p, _, _, _, rfl, rfl, SqT.of (sA _ _ hp), atI_nat (j := 1) rfl, by show 1 ≤ sizeLine; decide, fun L1 hL1 => ?_⟩
        have u1 := same_new hL1 (.lst [ve])
        refine ⟨_, rfl, p, _, _, _, rfl, rfl, SqT.of (u1 _ _ (sA _ _ hp)), atI_nat (j := 2) rfl, q, _, rfl, .inr (SqT.of (u1 _ _ (sA _ _ hq))), fun L2 hL2 => ?_⟩
        have u2 := same_new hL2 (.lst xs)
        refine ⟨_, _, _, _, rfl, rfl, u2 _ _ upd_same, upd_same, by rw [sizeLine_eq]; show 1 + _ ≤ _; omega, fun L3 hL3 => ?_⟩
        have u3 := ((sA.trans u1).trans u2).trans (same_new hL3 (.lst ([ve] ++ xs)))
        refine ⟨_, rfl, p, _, _, _, rfl, rfl, SqT.of (u3 _ _ hp), atI_nat (j := 3) rfl, r, _, rfl, .inr (SqT.of (u3 _ _ hr_)), fun L4 hL4 => ?_⟩
        have u4 := same_new hL4 (.lst ys)
        refine ⟨_, _, _, _, rfl, rfl, u4 _ _ upd_same, upd_same, by rw [List.length_append, sizeLine_eq]; show 1 + xs.length + _ ≤ _; omega, fun L5 hL5 => ?_⟩
        have u5 := (u3.trans u4).trans (same_new hL5 (.lst (([ve] ++ xs) ++ ys)))
        refine ⟨_, rfl, _, rfl, ?_⟩
        obtain ⟨c1, c2, c3, c4, c5⟩ := kc H4 _ (.s (.iff e a_ b)) _ u5 f4 gq (by show 2 ≤ 2 * _ + 2; omega) hh1 hn1 hfl1
        exact ⟨L5, parts (.s (.iff e a_ b)), _, hl, fl, hid ++ blkP (.s (.iff e a_ b)), _, c1, rfl, (.inl ⟨upd_same, ne_free ((u3.trans u4) _ _ f4) hL5⟩), (atl_app (a := Nd.e e :: stl a_) (b := stl b) (xs := ve :: xs) (ys := ys) ⟨ve, xs, rfl, AtE.on (same_tups u5) _ _ h5, AtL.on (same_tups u5) (fun _ _ h => AtN.on (same_tups u5) h) hx⟩ (AtL.on (same_tups u5) (fun _ _ h => AtN.on (same_tups u5) h) hb)), c2, (by rw [show hid ++ blkP _ = hid from List.append_nil _]; exact u5 _ _ hl4), hne, c3, c4, c5, fun H7 s7 f7 => kN H7 ((SB.same u5).trans s7) f7⟩
      | whl e a_ =>
        obtain ⟨p, ve, q, xs, rfl, hp, hq, h5, h6⟩ := hat4
        rw [show wordN (.s (.whl e a_)) = Str.ofString "while" from rfl]
        refine in_test4 (zs := [V.str (Str.ofString "set"), V.str (Str.ofString "setfield")]) rfl (fun _ _ q => q) (by show 2 ≤ sizeLine; decide) rfl (b := false) (by decide +kernel) fun H11 s11 => ?_
        refine iteF ?_
        refine in_test4 (zs := [V.str (Str.ofString "do"), V.str (Str.ofString "say"), V.str (Str.ofString "return"), V.str (Str.ofString "raise")]) rfl (fun _ _ q => q) (by show 4 ≤ sizeLine; decide) rfl (b := false) (by decide +kernel) fun H12 s12 => ?_
        refine iteF ?_
        refine ⟨_, rfl, rfl, _, rfl, ?_⟩
        refine ite2 (fun c => absurd c (by decide +kernel)) (fun _ => ?_)
        refine ⟨_, rfl, rfl, _, rfl, ?_⟩
        refine ite2 (fun _ => ?_) (fun c => absurd (by decide +kernel) c)
        have sA := (((Same.refl H4).trans s11).trans s12)
        have hx := atl_stl h6
        have hxl := hx.len
        have la := stl_len a_
        have hn_ : 1 + nE e + nSs a_ ≤ 1000 := hn1
        refine ⟨_, rfl, p, _, _, _, rfl, rfl, SqT.of (sA _ _ hp), atI_nat (j := 1) rfl, by show 1 ≤ sizeLine; decide, fun L1 hL1 => ?_⟩
        have u1 := same_new hL1 (.lst [ve])
        refine ⟨_, rfl, p, _, _, _, rfl, rfl, SqT.of (u1 _ _ (sA _ _ hp)), atI_nat (j := 2) rfl, q, _, rfl, .inr (SqT.of (u1 _ _ (sA _ _ hq))), fun L2 hL2 => ?_⟩
        have u2 := same_new hL2 (.lst xs)
        refine ⟨_, _, _, _, rfl, rfl, u2 _ _ upd_same, upd_same, by rw [sizeLine_eq]; show 1 + _ ≤ _; omega, fun L3 hL3 => ?_⟩
        have u3 := ((sA.trans u1).trans u2).trans (same_new hL3 (.lst ([ve] ++ xs)))
        refine ⟨_, rfl, _, rfl, ?_⟩
        obtain ⟨c1, c2, c3, c4, c5⟩ := kc H4 _ (.s (.whl e a_)) _ u3 f4 gq (by show 2 ≤ 2 * _ + 2; omega) hh1 hn1 hfl1
        exact ⟨L3, parts (.s (.whl e a_)), _, hl, fl, hid ++ blkP (.s (.whl e a_)), _, c1, rfl, (.inl ⟨upd_same, ne_free (((sA.trans u1).trans u2) _ _ f4) hL3⟩), ⟨ve, xs, rfl, AtE.on (same_tups u3) _ _ h5, AtL.on (same_tups u3) (fun _ _ h => AtN.on (same_tups u3) h) hx⟩, c2, (by rw [show hid ++ blkP _ = hid from List.append_nil _]; exact u3 _ _ hl4), hne, c3, c4, c5, fun H7 s7 f7 => kN H7 ((SB.same u3).trans s7) f7⟩
      | tri a_ z b =>
        obtain ⟨p, q, xs, r, ys, rfl, hp, hq, hr_, h6, h7⟩ := hat4
        rw [show wordN (.s (.tri a_ z b)) = Str.ofString "try" from rfl]
        refine in_test4 (zs := [V.str (Str.ofString "set"), V.str (Str.ofString "setfield")]) rfl (fun _ _ q => q) (by show 2 ≤ sizeLine; decide) rfl (b := false) (by decide +kernel) fun H11 s11 => ?_
        refine iteF ?_
        refine in_test4 (zs := [V.str (Str.ofString "do"), V.str (Str.ofString "say"), V.str (Str.ofString "return"), V.str (Str.ofString "raise")]) rfl (fun _ _ q => q) (by show 4 ≤ sizeLine; decide) rfl (b := false) (by decide +kernel) fun H12 s12 => ?_
        refine iteF ?_
        refine ⟨_, rfl, rfl, _, rfl, ?_⟩
        refine ite2 (fun c => absurd c (by decide +kernel)) (fun _ => ?_)
        refine ⟨_, rfl, rfl, _, rfl, ?_⟩
        refine ite2 (fun c => absurd c (by decide +kernel)) (fun _ => ?_)
        refine ⟨_, rfl, rfl, _, rfl, ?_⟩
        refine ite2 (fun _ => ?_) (fun c => absurd (by decide +kernel) c)
        have sA := (((Same.refl H4).trans s11).trans s12)
        have hx := atl_stl h6
        have hb := atl_stl h7
        have hxl := hx.len
        have hbl := hb.len
        have la := stl_len a_
        have lb := stl_len b
        have hn_ : 1 + nSs a_ + nSs b ≤ 1000 := hn1
        refine ⟨_, rfl, p, _, _, _, rfl, rfl, SqT.of (sA _ _ hp), atI_nat (j := 1) rfl, q, _, rfl, .inr (SqT.of (sA _ _ hq)), fun L1 hL1 => ?_⟩
        have u1 := same_new hL1 (.lst xs)
        refine ⟨_, rfl, p, _, _, _, rfl, rfl, SqT.of (u1 _ _ (sA _ _ hp)), atI_nat (j := 3) rfl, r, _, rfl, .inr (SqT.of (u1 _ _ (sA _ _ hr_))), fun L2 hL2 => ?_⟩
        have u2 := same_new hL2 (.lst ys)
        refine ⟨_, _, _, _, rfl, rfl, u2 _ _ upd_same, upd_same, by rw [sizeLine_eq]; omega, fun L3 hL3 => ?_⟩
        have u3 := ((sA.trans u1).trans u2).trans (same_new hL3 (.lst (xs ++ ys)))
        refine ⟨_, rfl, _, rfl, ?_⟩
        obtain ⟨c1, c2, c3, c4, c5⟩ := kc H4 _ (.s (.tri a_ z b)) _ u3 f4 gq (by show 2 ≤ 2 * _ + 2; omega) hh1 hn1 hfl1
        exact ⟨L3, parts (.s (.tri a_ z b)), _, hl, fl, hid ++ blkP (.s (.tri a_ z b)), _, c1, rfl, (.inl ⟨upd_same, ne_free (((sA.trans u1).trans u2) _ _ f4) hL3⟩), (atl_app (AtL.on (same_tups u3) (fun _ _ h => AtN.on (same_tups u3) h) hx) (AtL.on (same_tups u3) (fun _ _ h => AtN.on (same_tups u3) h) hb)), c2, (by rw [show hid ++ blkP _ = hid from List.append_nil _]; exact u3 _ _ hl4), hne, c3, c4, c5, fun H7 s7 f7 => kN H7 ((SB.same u3).trans s7) f7⟩
  · refine ⟨_, pss_one (ps_for PassesOwn.never rfl (pi_tup (pv 0)) (pg_name (i := 3) scWi.nd rfl (Or.inl rfl)) (pss_cons (ps_set (i := 4) scWi.nd rfl (Or.inl rfl) (pe_ix ix_tup (pv 3) pe_int (fun _ _ => rfl))) <|
      pss_cons (ps_set (i := 5) scWi.nd rfl (Or.inl rfl) pe_non) <|
      C8.pss_cut (ps_if (pt_cmpR op_eq (pv 4) pe_str (nomark _)) (pss_one (ps_set (i := 5) scWi.nd rfl (Or.inl rfl) (pe_ix ix_tup (pv 3) pe_int (fun _ _ => rfl)))) (pss_one (ps_if (pt_cmpR op_eq (pv 4) pe_str (nomark _)) (pss_one (ps_set (i := 5) scWi.nd rfl (Or.inl rfl) (pe_ix ix_tup (pv 3) pe_int (fun _ _ => rfl)))) pss_nil))) <|
      C8.pss_cut (ps_if (PW.pt (pw_and (pt_cmpR op_notN (pv 5) pe_non (nomark _)) (pw_and (pt_cmpR op_notIn_seq (pv 5) (pv 1) (by rfl)) (pw_and1 (pt_cmpR op_notIn_seq (pv 5) (pv 2) (by rfl)))))) (pss_one (ps_expr (pe_bm PySem.F.plainAttrs_list PySem.F.slot_list_append PySem.F.type_list_append mt_append (pv 2) (pa_cons (pv 5) pa_nil)))) pss_nil) <|
      (pss_one (ps_if (pt_cmpR op_in_seq (pv 4) (pe_lst (pa_cons pe_str (pa_cons pe_str pa_nil))) (by rfl)) (pss_one (ps_expr (pe_cc G hr (Nat.le_refl _) pass0 (pa_cons (pe_lst (pa_cons (pe_ix ix_tup (pv 3) pe_int (fun _ _ => rfl)) pa_nil)) (pa_cons (pv 1) (pa_cons (pv 2) pa_nil)))))) (pss_one (ps_if (pt_cmpR op_in_seq (pv 4) (pe_lst (pa_cons pe_str (pa_cons pe_str (pa_cons pe_str (pa_cons pe_str pa_nil))))) (by rfl)) (pss_one (ps_expr (pe_cc G hr (Nat.le_refl _) pass0 (pa_cons (pe_lst (pa_cons (pe_ix ix_tup (pv 3) pe_int (fun _ _ => rfl)) pa_nil)) (pa_cons (pv 1) (pa_cons (pv 2) pa_nil)))))) (pss_one (ps_if (pt_cmpR op_eq (pv 4) pe_str (nomark _)) (pss_one (ps_expr (pe_cc G hr (Nat.le_refl _) pass0 (pa_cons (pe_op op_cat (pe_op op_cat (pe_lst (pa_cons (pe_ix ix_tup (pv 3) pe_int (fun _ _ => rfl)) pa_nil)) (pe_callTy call_list_of (by rfl) gL (by decide +kernel) (pa_cons (pe_ix ix_tup (pv 3) pe_int (fun _ _ => rfl)) pa_nil))) (pe_callTy call_list_of (by rfl) gL (by decide +kernel) (pa_cons (pe_ix ix_tup (pv 3) pe_int (fun _ _ => rfl)) pa_nil))) (pa_cons (pv 1) (pa_cons (pv 2) pa_nil)))))) (pss_one (ps_if (pt_cmpR op_eq (pv 4) pe_str (nomark _)) (pss_one (ps_expr (pe_cc G hr (Nat.le_refl _) pass0 (pa_cons (pe_op op_cat (pe_lst (pa_cons (pe_ix ix_tup (pv 3) pe_int (fun _ _ => rfl)) pa_nil)) (pe_callTy call_list_of (by rfl) gL (by decide +kernel) (pa_cons (pe_ix ix_tup (pv 3) pe_int (fun _ _ => rfl)) pa_nil))) (pa_cons (pv 1) (pa_cons (pv 2) pa_nil)))))) (pss_one (ps_if (pt_cmpR op_eq (pv 4) pe_str (nomark _)) (pss_one (ps_expr (pe_cc G hr (Nat.le_refl _) pass0 (pa_cons (pe_op op_cat (pe_callTy call_list_of (by rfl) gL (by decide +kernel) (pa_cons (pe_ix ix_tup (pv 3) pe_int (fun _ _ => rfl)) pa_nil)) (pe_callTy call_list_of (by rfl) gL (by decide +kernel) (pa_cons (pe_ix ix_tup (pv 3) pe_int (fun _ _ => rfl)) pa_nil))) (pa_cons (pv 1) (pa_cons (pv 2) pa_nil)))))) (pss_one (ps_if (pt_cmpR op_eq (pv 4) pe_str (nomark _)) (pss_one (ps_expr (pe_cc G hr (Nat.le_refl _) pass0 (pa_cons (pe_op op_cat (pe_lst (pa_cons (pe_ix ix_tup (pv 3) pe_int (fun _ _ => rfl)) pa_nil)) (pe_callTy call_list_of (by rfl) gL (by decide +kernel) (pa_cons (pe_ix ix_tup (pv 3) pe_int (fun _ _ => rfl)) pa_nil))) (pa_cons (pv 1) (pa_cons (pv 2) pa_nil)))))) (pss_one (ps_if (pt_cmpR op_eq (pv 4) pe_str (nomark _)) (pss_one (ps_expr (pe_cc G hr (Nat.le_refl _) pass0 (pa_cons (pe_ix ix_tup (pv 3) pe_int (fun _ _ => rfl)) (pa_cons (pv 1) (pa_cons (pv 2) pa_nil)))))) (pss_one (ps_if (pt_cmpR op_eq (pv 4) pe_str (nomark _)) (pss_one (ps_expr (pe_cc G hr (Nat.le_refl _) pass0 (pa_cons (pe_ix ix_tup (pv 3) pe_int (fun _ _ => rfl)) (pa_cons (pv 1) (pa_cons (pv 2) pa_nil)))))) (pss_one (ps_if (pt_cmpR op_eq (pv 4) pe_str (nomark _)) (pss_one (ps_expr (pe_cc G hr (Nat.le_refl _) pass0 (pa_cons (pe_ix ix_tup (pv 3) pe_int (fun _ _ => rfl)) (pa_cons (pe_op op_cat (pv 1) (pe_callTy call_list_of (by rfl) gL (by decide +kernel) (pa_cons (pe_ix ix_tup (pv 3) pe_int (fun _ _ => rfl)) pa_nil))) (pa_cons (pv 2) pa_nil)))))) pss_nil)))))))))))))))))))), ?_⟩
    refine ⟨_, rfl, a, rfl, ⟨_, SqT.of ha⟩, ?_⟩
    refine for_tup (xs := us) (fun i σ H1 => ∃ (v3 v4 v5 : Option V), σ = [some (.ref a), some (.ref hl), some (.ref fl), v3, v4, v5] ∧ SB fl H H1 ∧ H1 fl = some (.lst (wsV (wiL h (qs.take i) hid f0)))) ⟨none, none, none, rfl, SB.refl, hfl⟩ (fun i σ H1 _ ⟨_, _, _, _, s1, _⟩ => SqT.of (s1.tups hfl _ _ ha)) ?_ ?_
    rotate_left
    · rintro σ H1 ⟨v3, v4, v5, rfl, s1, f1⟩
      rw [hul, List.take_length] at f1
      exact kq H1 s1 f1
    rintro i u σ H1 hu ⟨v3, v4, v5, rfl, s1, f1⟩
    obtain ⟨q, hq1, hat1⟩ := hat.get hu
    obtain ⟨gq, hh1, hn1⟩ := hqs q (List.mem_of_getElem? hq1)
    have t1 : Tups H H1 := s1.tups hfl
    replace hat1 := AtN.on t1 hat1
    have hl1 := s1 _ _ hne hhl
    have hst := sum_take_le qs hq1
    have hwl := wiL_len h (qs.take i) hid f0
    have et : qs.take (i + 1) = qs.take i ++ [q] := by rw [List.take_add_one, hq1]; rfl
    have kN0 : ∀ (v3 v4 v5 : V) (H7 : Hp), SB fl H1 H7 → H7 fl = some (.lst (wsV (wiS h hid (wiL h (qs.take i) hid f0) q))) → ∃ (w3 w4 w5 : Option V), [some (.ref a), some (.ref hl), some (.ref fl), some v3, some v4, some v5] = [some (.ref a), some (.ref hl), some (.ref fl), w3, w4, w5] ∧ SB fl H H7 ∧ H7 fl = some (.lst (wsV (wiL h (qs.take (i + 1)) hid f0))) := fun v3 v4 v5 H7 s7 f7 => ⟨_, _, _, rfl, s1.trans s7, by rw [et, wiL_snoc]; exact f7⟩
    have hfl0 : (wiL h (qs.take i) hid f0).length + nN q ≤ 3000 := by omega
    generalize wiL h (qs.take i) hid f0 = fi at f1 kN0 hfl0 hwl
    obtain ⟨pw, rest, hv, hpw, hc⟩ := name_word hat1 gq
    refine ⟨_, rfl, pw, _, _, _, hv, rfl, SqT.of hpw, atI_0, ?_⟩
    refine ⟨fun σ H2 => σ = [some (.ref a), some (.ref hl), some (.ref fl), some u, some (.str (wordN q)), some (nameV q)] ∧ H2 = H1, ?_, ?_⟩
    · rcases hc with ⟨c1, c2⟩ | ⟨c1, c2, c3⟩ | ⟨c1, c2, c3⟩
      · refine ⟨_, rfl, rfl, _, rfl, ?_⟩
        refine ite2 (fun _ => ?_) (fun c => absurd c1 c)
        exact ⟨_, rfl, pw, _, _, _, hv, rfl, SqT.of hpw, atI_nat (j := 1) (by simpa using c2), rfl, rfl⟩
      · refine ⟨_, rfl, rfl, _, rfl, ?_⟩
        refine ite2 (fun c => absurd (c1.symm.trans c) Bool.false_ne_true) (fun _ => ?_)
        refine ⟨_, rfl, rfl, _, rfl, ?_⟩
        refine ite2 (fun _ => ?_) (fun c => absurd c2 c)
        exact ⟨_, rfl, pw, _, _, _, hv, rfl, SqT.of hpw, atI_nat (j := 2) (by simpa using c3), rfl, rfl⟩
      · refine ⟨_, rfl, rfl, _, rfl, ?_⟩
        refine ite2 (fun c => absurd (c1.symm.trans c) Bool.false_ne_true) (fun _ => ?_)
        refine ⟨_, rfl, rfl, _, rfl, ?_⟩
        refine ite2 (fun c => absurd (c2.symm.trans c) Bool.false_ne_true) (fun _ => ?_)
        exact ⟨by rw [c3]; rfl, rfl⟩
    rintro σ H2 ⟨rfl, rfl⟩
    refine ⟨fun σ H4 => σ = [some (.ref a), some (.ref hl), some (.ref fl), some u, some (.str (wordN q)), some (nameV q)] ∧ SB fl H2 H4 ∧ H4 fl = some (.lst (wsV (addN q hid fi))), ?_, ?_⟩
    · cases ec : nameN q with
      | none =>
        have en : nameV q = .non := by unfold nameV; rw [ec]
        have ea : addN q hid fi = fi := by unfold addN; rw [ec]
        refine ⟨_, rfl, rfl, _, rfl, ?_⟩
        rw [en]
        refine ite2 (fun c => absurd c (by decide)) (fun _ => ?_)
        refine ite2 (fun c => absurd c (by decide)) (fun _ => ?_)
        exact ⟨rfl, SB.refl, by rw [ea]; exact f1⟩
      | some w =>
        have en : nameV q = .str (mk w) := by unfold nameV; rw [ec]
        refine ⟨_, rfl, rfl, _, rfl, ?_⟩
        rw [en]
        refine ite2 (fun _ => ?_) (fun c => absurd (by simp) c)
        refine ⟨_, rfl, _, rfl, hl, _, rfl, .inl (SqL.of hl1), rfl, flat_ws _, _, rfl, ?_⟩
        show if (!inV (.str (mk w)) (wsV hid)) = true then _ else _
        rw [in_ws]
        by_cases c1 : w ∈ hid
        · have ea : addN q hid fi = fi := by unfold addN; rw [ec]; exact if_pos (.inl c1)
          rw [decide_eq_true c1]
          refine ite2 (fun c => absurd c (by decide)) (fun _ => ?_)
          refine ite2 (fun c => absurd c (by decide)) (fun _ => ?_)
          exact ⟨rfl, SB.refl, by rw [ea]; exact f1⟩
        rw [decide_eq_false c1]
        refine ite2 (fun _ => ?_) (fun c => absurd rfl c)
        refine ⟨_, rfl, _, rfl, fl, _, rfl, .inl (SqL.of f1), rfl, flat_ws _, _, rfl, ?_⟩
        show if (!inV (.str (mk w)) (wsV fi)) = true then _ else _
        rw [in_ws]
        by_cases c2 : w ∈ fi
        · have ea : addN q hid fi = fi := by unfold addN; rw [ec]; exact if_pos (.inr c2)
          rw [decide_eq_true c2]
          refine ite2 (fun c => absurd c (by decide)) (fun _ => ?_)
          exact ⟨rfl, SB.refl, by rw [ea]; exact f1⟩
        have ea : addN q hid fi = fi ++ [w] := by unfold addN; rw [ec]; exact if_neg fun c => c.elim c1 c2
        rw [decide_eq_false c2]
        refine ite2 (fun _ => ?_) (fun c => absurd rfl c)
        refine ⟨_, rfl, .inl ⟨rfl, _, SqL.of f1⟩, _, rfl, fl, _, _, rfl, rfl, f1, by rw [wsV_len, sizeLine_eq]; omega, ?_⟩
        exact ⟨rfl, SB.upd _, by rw [ea, upd_same, ← wsV_app]; rfl⟩
    rintro σ H4 ⟨rfl, s4, f4⟩
    have t4 : Tups H2 H4 := s4.tups f1
    have hat4 := AtN.on t4 hat1
    have hl4 := s4 _ _ hne hl1
    have hal := addN_len q hid fi
    have hfl1 : (addN q hid fi).length + nN q ≤ 3001 := by omega
    have kN : ∀ (H7 : Hp), SB fl H4 H7 → H7 fl = some (.lst (wsV (wiH h (parts q) (hid ++ blkP q) (addN q hid fi)))) → _ := fun H7 s7 f7 => kN0 u (.str (wordN q)) (nameV q) H7 (s4.trans s7) f7
    have kL : ∀ (H7 : Hp), parts q = [] → Same H4 H7 → _ := fun H7 e s7 => kN H7 (SB.same s7) (by rw [e, wiH_nil]; exact s7 _ _ f4)
    replace s4 := s1.trans s4
    clear hat1 hpw hv hc kN0 t4 t1
    cases q with
    | e x =>
      cases x with
      | num n =>
        obtain ⟨p, rfl, hp⟩ := hat4
        rw [show wordN (.e (.num n)) = Str.ofString "number" from rfl]
        refine in_test4 (zs := [V.str (Str.ofString "set"), V.str (Str.ofString "setfield")]) rfl (fun _ _ q => q) (by show 2 ≤ sizeLine; decide) rfl (b := false) (by decide +kernel) fun H11 s11 => ?_
        refine iteF ?_
        refine in_test4 (zs := [V.str (Str.ofString "do"), V.str (Str.ofString "say"), V.str (Str.ofString "return"), V.str (Str.ofString "raise")]) rfl (fun _ _ q => q) (by show 4 ≤ sizeLine; decide) rfl (b := false) (by decide +kernel) fun H12 s12 => ?_
        refine iteF ?_
        refine ⟨_, rfl, rfl, _, rfl, ?_⟩
        refine ite2 (fun c => absurd c (by decide +kernel)) (fun _ => ?_)
        refine ⟨_, rfl, rfl, _, rfl, ?_⟩
        refine ite2 (fun c => absurd c (by decide +kernel)) (fun _ => ?_)
        refine ⟨_, rfl, rfl, _, rfl, ?_⟩
        refine ite2 (fun c => absurd c (by decide +kernel)) (fun _ => ?_)
        refine ⟨_, rfl, rfl, _, rfl, ?_⟩
        refine ite2 (fun c => absurd c (by decide +kernel)) (fun _ => ?_)
        refine ⟨_, rfl, rfl, _, rfl, ?_⟩
        refine ite2 (fun c => absurd c (by decide +kernel)) (fun _ => ?_)
        refine ⟨_, rfl, rfl, _, rfl, ?_⟩
        refine ite2 (fun c => absurd c (by decide +kernel)) (fun _ => ?_)
        refine ⟨_, rfl, rfl, _, rfl, ?_⟩
        refine ite2 (fun c => absurd c (by decide +kernel)) (fun _ => ?_)
        have sA := (((Same.refl H4).trans s11).trans s12)
        exact kL _ rfl sA
      | txt z =>
        obtain ⟨p, rfl, hp⟩ := hat4
        rw [show wordN (.e (.txt z)) = Str.ofString "text" from rfl]
        refine in_test4 (zs := [V.str (Str.ofString "set"), V.str (Str.ofString "setfield")]) rfl (fun _ _ q => q) (by show 2 ≤ sizeLine; decide) rfl (b := false) (by decide +kernel) fun H11 s11 => ?_
        refine iteF ?_
        refine in_test4 (zs := [V.str (Str.ofString "do"), V.str (Str.ofString "say"), V.str (Str.ofString "return"), V.str (Str.ofString "raise")]) rfl (fun _ _ q => q) (by show 4 ≤ sizeLine; decide) rfl (b := false) (by decide +kernel) fun H12 s12 => ?_
        refine iteF ?_
        refine ⟨_, rfl, rfl, _, rfl, ?_⟩
        refine ite2 (fun c => absurd c (by decide +kernel)) (fun _ => ?_)
        refine ⟨_, rfl, rfl, _, rfl, ?_⟩
        refine ite2 (fun c => absurd c (by decide +kernel)) (fun _ => ?_)
        refine ⟨_, rfl, rfl, _, rfl, ?_⟩
        refine ite2 (fun c => absurd c (by decide +kernel)) (fun _ => ?_)
        refine ⟨_, rfl, rfl, _, rfl, ?_⟩
        refine ite2 (fun c => absurd c (by decide +kernel)) (fun _ => ?_)
        refine ⟨_, rfl, rfl, _, rfl, ?_⟩
        refine ite2 (fun c => absurd c (by decide +kernel)) (fun _ => ?_)
        refine ⟨_, rfl, rfl, _, rfl, ?_⟩
        refine ite2 (fun c => absurd c (by decide +kernel)) (fun _ => ?_)
        refine ⟨_, rfl, rfl, _, rfl, ?_⟩
        refine ite2 (fun c => absurd c (by decide +kernel)) (fun _ => ?_)
        have sA := (((Same.refl H4).trans s11).trans s12)
        exact kL _ rfl sA
      | tru b =>
        obtain ⟨p, rfl, hp⟩ := hat4
        rw [show wordN (.e (.tru b)) = Str.ofString "truth" from rfl]
        refine in_test4 (zs := [V.str (Str.ofString "set"), V.str (Str.ofString "setfield")]) rfl (fun _ _ q => q) (by show 2 ≤ sizeLine; decide) rfl (b := false) (by decide +kernel) fun H11 s11 => ?_
        refine iteF ?_
        refine in_test4 (zs := [V.str (Str.ofString "do"), V.str (Str.ofString "say"), V.str (Str.ofString "return"), V.str (Str.ofString "raise")]) rfl (fun _ _ q => q) (by show 4 ≤ sizeLine; decide) rfl (b := false) (by decide +kernel) fun H12 s12 => ?_
        refine iteF ?_
        refine ⟨_, rfl, rfl, _, rfl, ?_⟩
        refine ite2 (fun c => absurd c (by decide +kernel)) (fun _ => ?_)
        refine ⟨_, rfl, rfl, _, rfl, ?_⟩
        refine ite2 (fun c => absurd c (by decide +kernel)) (fun _ => ?_)
        refine ⟨_, rfl, rfl, _, rfl, ?_⟩
        refine ite2 (fun c => absurd c (by decide +kernel)) (fun _ => ?_)
        refine ⟨_, rfl, rfl, _, rfl, ?_⟩
        refine ite2 (fun c => absurd c (by decide +kernel)) (fun _ => ?_)
        refine ⟨_, rfl, rfl, _, rfl, ?_⟩
        refine ite2 (fun c => absurd c (by decide +kernel)) (fun _ => ?_)
        refine ⟨_, rfl, rfl, _, rfl, ?_⟩
        refine ite2 (fun c => absurd c (by decide +kernel)) (fun _ => ?_)
        refine ⟨_, rfl, rfl, _, rfl, ?_⟩
        refine ite2 (fun c => absurd c (by decide +kernel)) (fun _ => ?_)
        have sA := (((Same.refl H4).trans s11).trans s12)
        exact kL _ rfl sA
      | non =>
        obtain ⟨p, rfl, hp⟩ := hat4
        rw [show wordN (.e (.non)) = Str.ofString "none" from rfl]
        refine in_test4 (zs := [V.str (Str.ofString "set"), V.str (Str.ofString "setfield")]) rfl (fun _ _ q => q) (by show 2 ≤ sizeLine; decide) rfl (b := false) (by decide +kernel) fun H11 s11 => ?_
        refine iteF ?_
        refine in_test4 (zs := [V.str (Str.ofString "do"), V.str (Str.ofString "say"), V.str (Str.ofString "return"), V.str (Str.ofString "raise")]) rfl (fun _ _ q => q) (by show 4 ≤ sizeLine; decide) rfl (b := false) (by decide +kernel) fun H12 s12 => ?_
        refine iteF ?_
        refine ⟨_, rfl, rfl, _, rfl, ?_⟩
        refine ite2 (fun c => absurd c (by decide +kernel)) (fun _ => ?_)
        refine ⟨_, rfl, rfl, _, rfl, ?_⟩
        refine ite2 (fun c => absurd c (by decide +kernel)) (fun _ => ?_)
        refine ⟨_, rfl, rfl, _, rfl, ?_⟩
        refine ite2 (fun c => absurd c (by decide +kernel)) (fun _ => ?_)
        refine ⟨_, rfl, rfl, _, rfl, ?_⟩
        refine ite2 (fun c => absurd c (by decide +kernel)) (fun _ => ?_)
        refine ⟨_, rfl, rfl, _, rfl, ?_⟩
        refine ite2 (fun c => absurd c (by decide +kernel)) (fun _ => ?_)
        refine ⟨_, rfl, rfl, _, rfl, ?_⟩
        refine ite2 (fun c => absurd c (by decide +kernel)) (fun _ => ?_)
        refine ⟨_, rfl, rfl, _, rfl, ?_⟩
        refine ite2 (fun c => absurd c (by decide +kernel)) (fun _ => ?_)
        have sA := (((Same.refl H4).trans s11).trans s12)
        exact kL _ rfl sA
      | slf =>
        obtain ⟨p, rfl, hp⟩ := hat4
        rw [show wordN (.e (.slf)) = Str.ofString "self" from rfl]
        refine in_test4 (zs := [V.str (Str.ofString "set"), V.str (Str.ofString "setfield")]) rfl (fun _ _ q => q) (by show 2 ≤ sizeLine; decide) rfl (b := false) (by decide +kernel) fun H11 s11 => ?_
        refine iteF ?_
        refine in_test4 (zs := [V.str (Str.ofString "do"), V.str (Str.ofString "say"), V.str (Str.ofString "return"), V.str (Str.ofString "raise")]) rfl (fun _ _ q => q) (by show 4 ≤ sizeLine; decide) rfl (b := false) (by decide +kernel) fun H12 s12 => ?_
        refine iteF ?_
        refine ⟨_, rfl, rfl, _, rfl, ?_⟩
        refine ite2 (fun c => absurd c (by decide +kernel)) (fun _ => ?_)
        refine ⟨_, rfl, rfl, _, rfl, ?_⟩
        refine ite2 (fun c => absurd c (by decide +kernel)) (fun _ => ?_)
        refine ⟨_, rfl, rfl, _, rfl, ?_⟩
        refine ite2 (fun c => absurd c (by decide +kernel)) (fun _ => ?_)
        refine ⟨_, rfl, rfl, _, rfl, ?_⟩
        refine ite2 (fun c => absurd c (by decide +kernel)) (fun _ => ?_)
        refine ⟨_, rfl, rfl, _, rfl, ?_⟩
        refine ite2 (fun c => absurd c (by decide +kernel)) (fun _ => ?_)
        refine ⟨_, rfl, rfl, _, rfl, ?_⟩
        refine ite2 (fun c => absurd c (by decide +kernel)) (fun _ => ?_)
        refine ⟨_, rfl, rfl, _, rfl, ?_⟩
        refine ite2 (fun c => absurd c (by decide +kernel)) (fun _ => ?_)
        have sA := (((Same.refl H4).trans s11).trans s12)
        exact kL _ rfl sA
      | nam z =>
        obtain ⟨p, rfl, hp⟩ := hat4
        rw [show wordN (.e (.nam z)) = Str.ofString "name" from rfl]
        refine in_test4 (zs := [V.str (Str.ofString "set"), V.str (Str.ofString "setfield")]) rfl (fun _ _ q => q) (by show 2 ≤ sizeLine; decide) rfl (b := false) (by decide +kernel) fun H11 s11 => ?_
        refine iteF ?_
        refine in_test4 (zs := [V.str (Str.ofString "do"), V.str (Str.ofString "say"), V.str (Str.ofString "return"), V.str (Str.ofString "raise")]) rfl (fun _ _ q => q) (by show 4 ≤ sizeLine; decide) rfl (b := false) (by decide +kernel) fun H12 s12 => ?_
        refine iteF ?_
        refine ⟨_, rfl, rfl, _, rfl, ?_⟩
        refine ite2 (fun c => absurd c (by decide +kernel)) (fun _ => ?_)
        refine ⟨_, rfl, rfl, _, rfl, ?_⟩
        refine ite2 (fun c => absurd c (by decide +kernel)) (fun _ => ?_)
        refine ⟨_, rfl, rfl, _, rfl, ?_⟩
        refine ite2 (fun c => absurd c (by decide +kernel)) (fun _ => ?_)
        refine ⟨_, rfl, rfl, _, rfl, ?_⟩
        refine ite2 (fun c => absurd c (by decide +kernel)) (fun _ => ?_)
        refine ⟨_, rfl, rfl, _, rfl, ?_⟩
        refine ite2 (fun c => absurd c (by decide +kernel)) (fun _ => ?_)
        refine ⟨_, rfl, rfl, _, rfl, ?_⟩
        refine ite2 (fun c => absurd c (by decide +kernel)) (fun _ => ?_)
        refine ⟨_, rfl, rfl, _, rfl, ?_⟩
        refine ite2 (fun c => absurd c (by decide +kernel)) (fun _ => ?_)
        have sA := (((Same.refl H4).trans s11).trans s12)
        exact kL _ rfl sA
      | fld z =>
        obtain ⟨p, rfl, hp⟩ := hat4
        rw [show wordN (.e (.fld z)) = Str.ofString "field" from rfl]
        refine in_test4 (zs := [V.str (Str.ofString "set"), V.str (Str.ofString "setfield")]) rfl (fun _ _ q => q) (by show 2 ≤ sizeLine; decide) rfl (b := false) (by decide +kernel) fun H11 s11 => ?_
        refine iteF ?_
        refine in_test4 (zs := [V.str (Str.ofString "do"), V.str (Str.ofString "say"), V.str (Str.ofString "return"), V.str (Str.ofString "raise")]) rfl (fun _ _ q => q) (by show 4 ≤ sizeLine; decide) rfl (b := false) (by decide +kernel) fun H12 s12 => ?_
        refine iteF ?_
        refine ⟨_, rfl, rfl, _, rfl, ?_⟩
        refine ite2 (fun c => absurd c (by decide +kernel)) (fun _ => ?_)
        refine ⟨_, rfl, rfl, _, rfl, ?_⟩
        refine ite2 (fun c => absurd c (by decide +kernel)) (fun _ => ?_)
        refine ⟨_, rfl, rfl, _, rfl, ?_⟩
        refine ite2 (fun c => absurd c (by decide +kernel)) (fun _ => ?_)
        refine ⟨_, rfl, rfl, _, rfl, ?_⟩
        refine ite2 (fun c => absurd c (by decide +kernel)) (fun _ => ?_)
        refine ⟨_, rfl, rfl, _, rfl, ?_⟩
        refine ite2 (fun c => absurd c (by decide +kernel)) (fun _ => ?_)
        refine ⟨_, rfl, rfl, _, rfl, ?_⟩
        refine ite2 (fun c => absurd c (by decide +kernel)) (fun _ => ?_)
        refine ⟨_, rfl, rfl, _, rfl, ?_⟩
        refine ite2 (fun c => absurd c (by decide +kernel)) (fun _ => ?_)
        have sA := (((Same.refl H4).trans s11).trans s12)
        exact kL _ rfl sA
      | new z =>
        obtain ⟨p, rfl, hp⟩ := hat4
        rw [show wordN (.e (.new z)) = Str.ofString "new" from rfl]
        refine in_test4 (zs := [V.str (Str.ofString "set"), V.str (Str.ofString "setfield")]) rfl (fun _ _ q => q) (by show 2 ≤ sizeLine; decide) rfl (b := false) (by decide +kernel) fun H11 s11 => ?_
        refine iteF ?_
        refine in_test4 (zs := [V.str (Str.ofString "do"), V.str (Str.ofString "say"), V.str (Str.ofString "return"), V.str (Str.ofString "raise")]) rfl (fun _ _ q => q) (by show 4 ≤ sizeLine; decide) rfl (b := false) (by decide +kernel) fun H12 s12 => ?_
        refine iteF ?_
        refine ⟨_, rfl, rfl, _, rfl, ?_⟩
        refine ite2 (fun c => absurd c (by decide +kernel)) (fun _ => ?_)
        refine ⟨_, rfl, rfl, _, rfl, ?_⟩
        refine ite2 (fun c => absurd c (by decide +kernel)) (fun _ => ?_)
        refine ⟨_, rfl, rfl, _, rfl, ?_⟩
        refine ite2 (fun c => absurd c (by decide +kernel)) (fun _ => ?_)
        refine ⟨_, rfl, rfl, _, rfl, ?_⟩
        refine ite2 (fun c => absurd c (by decide +kernel)) (fun _ => ?_)
        refine ⟨_, rfl, rfl, _, rfl, ?_⟩
        refine ite2 (fun c => absurd c (by decide +kernel)) (fun _ => ?_)
        refine ⟨_, rfl, rfl, _, rfl, ?_⟩
        refine ite2 (fun c => absurd c (by decide +kernel)) (fun _ => ?_)
        refine ⟨_, rfl, rfl, _, rfl, ?_⟩
        refine ite2 (fun c => absurd c (by decide +kernel)) (fun _ => ?_)
        have sA := (((Same.refl H4).trans s11).trans s12)
        exact kL _ rfl sA
      | send r m es =>
        obtain ⟨p, vr, q, xs, rfl, hp, hq, h3, h4⟩ := hat4
        rw [show wordN (.e (.send r m es)) = Str.ofString "send" from rfl]
        refine in_test4 (zs := [V.str (Str.ofString "set"), V.str (Str.ofString "setfield")]) rfl (fun _ _ q => q) (by show 2 ≤ sizeLine; decide) rfl (b := false) (by decide +kernel) fun H11 s11 => ?_
        refine iteF ?_
        refine in_test4 (zs := [V.str (Str.ofString "do"), V.str (Str.ofString "say"), V.str (Str.ofString "return"), V.str (Str.ofString "raise")]) rfl (fun _ _ q => q) (by show 4 ≤ sizeLine; decide) rfl (b := false) (by decide +kernel) fun H12 s12 => ?_
        refine iteF ?_
        refine ⟨_, rfl, rfl, _, rfl, ?_⟩
        refine ite2 (fun c => absurd c (by decide +kernel)) (fun _ => ?_)
        refine ⟨_, rfl, rfl, _, rfl, ?_⟩
        refine ite2 (fun c => absurd c (by decide +kernel)) (fun _ => ?_)
        refine ⟨_, rfl, rfl, _, rfl, ?_⟩
        refine ite2 (fun c => absurd c (by decide +kernel)) (fun _ => ?_)
        refine ⟨_, rfl, rfl, _, rfl, ?_⟩
        refine ite2 (fun _ => ?_) (fun c => absurd (by decide +kernel) c)
        have sA := (((Same.refl H4).trans s11).trans s12)
        have hx := atl_exl h4
        have hxl := hx.len
        have hl_ := exl_len es
        have hn_ : 1 + nE r + nEs es ≤ 1000 := hn1
        refine ⟨_, rfl, p, _, _, _, rfl, rfl, SqT.of (sA _ _ hp), atI_nat (j := 1) rfl, by show 1 ≤ sizeLine; decide, fun L1 hL1 => ?_⟩
        have u1 := same_new hL1 (.lst [vr])
        refine ⟨_, rfl, p, _, _, _, rfl, rfl, SqT.of (u1 _ _ (sA _ _ hp)), atI_nat (j := 3) rfl, q, _, rfl, .inr (SqT.of (u1 _ _ (sA _ _ hq))), fun L2 hL2 => ?_⟩
        have u2 := same_new hL2 (.lst xs)
        refine ⟨_, _, _, _, rfl, rfl, u2 _ _ upd_same, upd_same, by rw [sizeLine_eq]; show 1 + _ ≤ _; omega, fun L3 hL3 => ?_⟩
        have u3 := ((sA.trans u1).trans u2).trans (same_new hL3 (.lst ([vr] ++ xs)))
        refine ⟨_, rfl, _, rfl, ?_⟩
        obtain ⟨c1, c2, c3, c4, c5⟩ := kc H4 _ (.e (.send r m es)) _ u3 f4 gq (by show 2 ≤ 2 * oE (.send r m es) + 1; have : oE (.send r m es) = 1 + max (oE r) (oEs es) := rfl; omega) hh1 hn1 hfl1
        exact ⟨L3, parts (.e (.send r m es)), _, hl, fl, hid ++ blkP (.e (.send r m es)), _, c1, rfl, (.inl ⟨upd_same, ne_free (((sA.trans u1).trans u2) _ _ f4) hL3⟩), ⟨vr, xs, rfl, AtE.on (same_tups u3) _ _ h3, AtL.on (same_tups u3) (fun _ _ h => AtN.on (same_tups u3) h) hx⟩, c2, (by rw [show hid ++ blkP _ = hid from List.append_nil _]; exact u3 _ _ hl4), hne, c3, c4, c5, fun H7 s7 f7 => kN H7 ((SB.same u3).trans s7) f7⟩
      | up m es =>
        obtain ⟨p, q, xs, rfl, hp, hq, h4⟩ := hat4
        rw [show wordN (.e (.up m es)) = Str.ofString "up" from rfl]
        refine in_test4 (zs := [V.str (Str.ofString "set"), V.str (Str.ofString "setfield")]) rfl (fun _ _ q => q) (by show 2 ≤ sizeLine; decide) rfl (b := false) (by decide +kernel) fun H11 s11 => ?_
        refine iteF ?_
        refine in_test4 (zs := [V.str (Str.ofString "do"), V.str (Str.ofString "say"), V.str (Str.ofString "return"), V.str (Str.ofString "raise")]) rfl (fun _ _ q => q) (by show 4 ≤ sizeLine; decide) rfl (b := false) (by decide +kernel) fun H12 s12 => ?_
        refine iteF ?_
        refine ⟨_, rfl, rfl, _, rfl, ?_⟩
        refine ite2 (fun c => absurd c (by decide +kernel)) (fun _ => ?_)
        refine ⟨_, rfl, rfl, _, rfl, ?_⟩
        refine ite2 (fun c => absurd c (by decide +kernel)) (fun _ => ?_)
        refine ⟨_, rfl, rfl, _, rfl, ?_⟩
        refine ite2 (fun c => absurd c (by decide +kernel)) (fun _ => ?_)
        refine ⟨_, rfl, rfl, _, rfl, ?_⟩
        refine ite2 (fun c => absurd c (by decide +kernel)) (fun _ => ?_)
        refine ⟨_, rfl, rfl, _, rfl, ?_⟩
        refine ite2 (fun _ => ?_) (fun c => absurd (by decide +kernel) c)
        have sA := (((Same.refl H4).trans s11).trans s12)
        refine ⟨_, rfl, p, _, _, _, rfl, rfl, SqT.of (sA _ _ hp), atI_nat (j := 2) rfl, ?_⟩
        refine ⟨_, rfl, _, rfl, ?_⟩
        obtain ⟨c1, c2, c3, c4, c5⟩ := kc H4 _ (.e (.up m es)) _ sA f4 gq (by show 2 ≤ 2 * oE (.up m es) + 1; have : oE (.up m es) = 1 + oEs es := rfl; omega) hh1 hn1 hfl1
        exact ⟨q, parts (.e (.up m es)), _, hl, fl, hid ++ blkP (.e (.up m es)), _, c1, rfl, (.inr (sA _ _ hq)), (AtL.on (same_tups sA) (fun _ _ h => AtN.on (same_tups sA) h) (atl_exl h4)), c2, (by rw [show hid ++ blkP _ = hid from List.append_nil _]; exact sA _ _ hl4), hne, c3, c4, c5, fun H7 s7 f7 => kN H7 ((SB.same sA).trans s7) f7⟩
      | lst es =>
        obtain ⟨p, q, xs, rfl, hp, hq, h4⟩ := hat4
        rw [show wordN (.e (.lst es)) = Str.ofString "list" from rfl]
        refine in_test4 (zs := [V.str (Str.ofString "set"), V.str (Str.ofString "setfield")]) rfl (fun _ _ q => q) (by show 2 ≤ sizeLine; decide) rfl (b := false) (by decide +kernel) fun H11 s11 => ?_
        refine iteF ?_
        refine in_test4 (zs := [V.str (Str.ofString "do"), V.str (Str.ofString "say"), V.str (Str.ofString "return"), V.str (Str.ofString "raise")]) rfl (fun _ _ q => q) (by show 4 ≤ sizeLine; decide) rfl (b := false) (by decide +kernel) fun H12 s12 => ?_
        refine iteF ?_
        refine ⟨_, rfl, rfl, _, rfl, ?_⟩
        refine ite2 (fun c => absurd c (by decide +kernel)) (fun _ => ?_)
        refine ⟨_, rfl, rfl, _, rfl, ?_⟩
        refine ite2 (fun c => absurd c (by decide +kernel)) (fun _ => ?_)
        refine ⟨_, rfl, rfl, _, rfl, ?_⟩
        refine ite2 (fun c => absurd c (by decide +kernel)) (fun _ => ?_)
        refine ⟨_, rfl, rfl, _, rfl, ?_⟩
        refine ite2 (fun c => absurd c (by decide +kernel)) (fun _ => ?_)
        refine ⟨_, rfl, rfl, _, rfl, ?_⟩
        refine ite2 (fun c => absurd c (by decide +kernel)) (fun _ => ?_)
        refine ⟨_, rfl, rfl, _, rfl, ?_⟩
        refine ite2 (fun _ => ?_) (fun c => absurd (by decide +kernel) c)
        have sA := (((Same.refl H4).trans s11).trans s12)
        refine ⟨_, rfl, p, _, _, _, rfl, rfl, SqT.of (sA _ _ hp), atI_nat (j := 1) rfl, ?_⟩
        refine ⟨_, rfl, _, rfl, ?_⟩
        obtain ⟨c1, c2, c3, c4, c5⟩ := kc H4 _ (.e (.lst es)) _ sA f4 gq (by show 2 ≤ 2 * oE (.lst es) + 1; have : oE (.lst es) = 1 + oEs es := rfl; omega) hh1 hn1 hfl1
        exact ⟨q, parts (.e (.lst es)), _, hl, fl, hid ++ blkP (.e (.lst es)), _, c1, rfl, (.inr (sA _ _ hq)), (AtL.on (same_tups sA) (fun _ _ h => AtN.on (same_tups sA) h) (atl_exl h4)), c2, (by rw [show hid ++ blkP _ = hid from List.append_nil _]; exact sA _ _ hl4), hne, c3, c4, c5, fun H7 s7 f7 => kN H7 ((SB.same sA).trans s7) f7⟩
      | blk ps ss =>
        obtain ⟨p, vw, q, xs, rfl, hp, hq, hw, h4⟩ := hat4
        rw [show wordN (.e (.blk ps ss)) = Str.ofString "block" from rfl]
        refine in_test4 (zs := [V.str (Str.ofString "set"), V.str (Str.ofString "setfield")]) rfl (fun _ _ q => q) (by show 2 ≤ sizeLine; decide) rfl (b := false) (by decide +kernel) fun H11 s11 => ?_
        refine iteF ?_
        refine in_test4 (zs := [V.str (Str.ofString "do"), V.str (Str.ofString "say"), V.str (Str.ofString "return"), V.str (Str.ofString "raise")]) rfl (fun _ _ q => q) (by show 4 ≤ sizeLine; decide) rfl (b := false) (by decide +kernel) fun H12 s12 => ?_
        refine iteF ?_
        refine ⟨_, rfl, rfl, _, rfl, ?_⟩
        refine ite2 (fun c => absurd c (by decide +kernel)) (fun _ => ?_)
        refine ⟨_, rfl, rfl, _, rfl, ?_⟩
        refine ite2 (fun c => absurd c (by decide +kernel)) (fun _ => ?_)
        refine ⟨_, rfl, rfl, _, rfl, ?_⟩
        refine ite2 (fun c => absurd c (by decide +kernel)) (fun _ => ?_)
        refine ⟨_, rfl, rfl, _, rfl, ?_⟩
        refine ite2 (fun c => absurd c (by decide +kernel)) (fun _ => ?_)
        refine ⟨_, rfl, rfl, _, rfl, ?_⟩
        refine ite2 (fun c => absurd c (by decide +kernel)) (fun _ => ?_)
        refine ⟨_, rfl, rfl, _, rfl, ?_⟩
        refine ite2 (fun c => absurd c (by decide +kernel)) (fun _ => ?_)
        refine ⟨_, rfl, rfl, _, rfl, ?_⟩
        refine ite2 (fun _ => ?_) (fun c => absurd (by decide +kernel) c)
        have sA := (((Same.refl H4).trans s11).trans s12)
        obtain ⟨pw2, rfl, hpw2⟩ := hw
        have hps : ps.length ≤ 10 := gq.1
        refine ⟨_, rfl, p, _, _, _, rfl, rfl, SqT.of (sA _ _ hp), atI_nat (j := 2) rfl, ?_⟩
        refine ⟨_, rfl, _, rfl, p, _, _, _, rfl, rfl, SqT.of (sA _ _ hp), atI_nat (j := 1) rfl, pw2, _, rfl, .inr (SqT.of (sA _ _ hpw2)), fun L1 hL1 => ?_⟩
        have u1 := sA.trans (same_new hL1 (.lst (wsV ps)))
        refine ⟨_, _, _, _, rfl, rfl, u1 _ _ hl4, upd_same, by rw [wsV_len, wsV_len, sizeLine_eq]; omega, fun L2 hL2 => ?_⟩
        have u2 := u1.trans (same_new hL2 (.lst (wsV hid ++ wsV ps)))
        refine ⟨_, rfl, ?_⟩
        obtain ⟨c1, c2, c3, c4, c5⟩ := kc H4 _ (.e (.blk ps ss)) _ u2 f4 gq (by show 2 ≤ 2 * oE (.blk ps ss) + 1; have : oE (.blk ps ss) = 1 + oSs ss := rfl; omega) hh1 hn1 hfl1
        exact ⟨q, parts (.e (.blk ps ss)), _, L2, fl, hid ++ blkP (.e (.blk ps ss)), _, c1, rfl, (.inr (u2 _ _ hq)), (AtL.on (same_tups u2) (fun _ _ h => AtN.on (same_tups u2) h) (atl_stl h4)), c2, (by rw [upd_same, wsV_app]; rfl), (ne_free (u1 _ _ f4) hL2), c3, c4, c5, fun H7 s7 f7 => kN H7 ((SB.same u2).trans s7) f7⟩
    | s x =>
      cases x with
      | set z e =>
        obtain ⟨p, ve, rfl, hp, he⟩ := hat4
        rw [show wordN (.s (.set z e)) = Str.ofString "set" from rfl]
        refine in_test4 (zs := [V.str (Str.ofString "set"), V.str (Str.ofString "setfield")]) rfl (fun _ _ q => q) (by show 2 ≤ sizeLine; decide) rfl (b := true) (by decide +kernel) fun H11 s11 => ?_
        refine iteT ?_
        have sA := ((Same.refl H4).trans s11)
        refine ⟨_, rfl, p, _, _, _, rfl, rfl, SqT.of (sA _ _ hp), atI_nat (j := 2) rfl, by show 1 ≤ sizeLine; decide, fun L hL => ?_⟩
        have uA := sA.trans (same_new hL (.lst [ve]))
        refine ⟨_, rfl, _, rfl, ?_⟩
        obtain ⟨c1, c2, c3, c4, c5⟩ := kc H4 _ (.s (.set z e)) _ uA f4 gq (by show 2 ≤ 2 * _ + 2; omega) hh1 hn1 hfl1
        exact ⟨L, parts (.s (.set z e)), _, hl, fl, hid ++ blkP (.s (.set z e)), _, c1, rfl, (.inl ⟨upd_same, ne_free (sA _ _ f4) hL⟩), ⟨_, [], rfl, AtE.on (same_tups uA) _ _ he, rfl⟩, c2, (by rw [show hid ++ blkP _ = hid from List.append_nil _]; exact uA _ _ hl4), hne, c3, c4, c5, fun H7 s7 f7 => kN H7 ((SB.same uA).trans s7) f7⟩
      | sfl z e =>
        obtain ⟨p, ve, rfl, hp, he⟩ := hat4
        rw [show wordN (.s (.sfl z e)) = Str.ofString "setfield" from rfl]
        refine in_test4 (zs := [V.str (Str.ofString "set"), V.str (Str.ofString "setfield")]) rfl (fun _ _ q => q) (by show 2 ≤ sizeLine; decide) rfl (b := true) (by decide +kernel) fun H11 s11 => ?_
        refine iteT ?_
        have sA := ((Same.refl H4).trans s11)
        refine ⟨_, rfl, p, _, _, _, rfl, rfl, SqT.of (sA _ _ hp), atI_nat (j := 2) rfl, by show 1 ≤ sizeLine; decide, fun L hL => ?_⟩
        have uA := sA.trans (same_new hL (.lst [ve]))
        refine ⟨_, rfl, _, rfl, ?_⟩
        obtain ⟨c1, c2, c3, c4, c5⟩ := kc H4 _ (.s (.sfl z e)) _ uA f4 gq (by show 2 ≤ 2 * _ + 2; omega) hh1 hn1 hfl1
        exact ⟨L, parts (.s (.sfl z e)), _, hl, fl, hid ++ blkP (.s (.sfl z e)), _, c1, rfl, (.inl ⟨upd_same, ne_free (sA _ _ f4) hL⟩), ⟨_, [], rfl, AtE.on (same_tups uA) _ _ he, rfl⟩, c2, (by rw [show hid ++ blkP _ = hid from List.append_nil _]; exact uA _ _ hl4), hne, c3, c4, c5, fun H7 s7 f7 => kN H7 ((SB.same uA).trans s7) f7⟩
      | pl z e =>
        obtain ⟨p, ve, rfl, hp, he⟩ := hat4
        have hpl : inV (.str (mk z)) [V.str (Str.ofString "set"), V.str (Str.ofString "setfield")] = false ∧ inV (.str (mk z)) [V.str (Str.ofString "do"), V.str (Str.ofString "say"), V.str (Str.ofString "return"), V.str (Str.ofString "raise")] = true := by
          have hz : isPl z = true := gq.1
          rcases pl_cases hz with h | h | h | h <;> (rw [h, mk_tl]; decide +kernel)
        rw [show wordN (.s (.pl z e)) = mk z from rfl]
        refine in_test4 (zs := [V.str (Str.ofString "set"), V.str (Str.ofString "setfield")]) rfl (fun _ _ q => q) (by show 2 ≤ sizeLine; decide) rfl (b := false) (hpl.1) fun H11 s11 => ?_
        refine iteF ?_
        refine in_test4 (zs := [V.str (Str.ofString "do"), V.str (Str.ofString "say"), V.str (Str.ofString "return"), V.str (Str.ofString "raise")]) rfl (fun _ _ q => q) (by show 4 ≤ sizeLine; decide) rfl (b := true) (hpl.2) fun H12 s12 => ?_
        refine iteT ?_
        have sA := (((Same.refl H4).trans s11).trans s12)
        refine ⟨_, rfl, p, _, _, _, rfl, rfl, SqT.of (sA _ _ hp), atI_nat (j := 1) rfl, by show 1 ≤ sizeLine; decide, fun L hL => ?_⟩
        have uA := sA.trans (same_new hL (.lst [ve]))
        refine ⟨_, rfl, _, rfl, ?_⟩
        obtain ⟨c1, c2, c3, c4, c5⟩ := kc H4 _ (.s (.pl z e)) _ uA f4 gq (by show 2 ≤ 2 * _ + 2; omega) hh1 hn1 hfl1
        exact ⟨L, parts (.s (.pl z e)), _, hl, fl, hid ++ blkP (.s (.pl z e)), _, c1, rfl, (.inl ⟨upd_same, ne_free (sA _ _ f4) hL⟩), ⟨_, [], rfl, AtE.on (same_tups uA) _ _ he, rfl⟩, c2, (by rw [show hid ++ blkP _ = hid from List.append_nil _]; exact uA _ _ hl4), hne, c3, c4, c5, fun H7 s7 f7 => kN H7 ((SB.same uA).trans s7) f7⟩
      | iff e a_ b =>
        obtain ⟨p, ve, q, xs, r, ys, rfl, hp, hq, hr_, h5, h6, h7⟩ := hat4
        rw [show wordN (.s (.iff e a_ b)) = Str.ofString "if" from rfl]
        refine in_test4 (zs := [V.str (Str.ofString "set"), V.str (Str.ofString "setfield")]) rfl (fun _ _ q => q) (by show 2 ≤ sizeLine; decide) rfl (b := false) (by decide +kernel) fun H11 s11 => ?_
        refine iteF ?_
        refine in_test4 (zs := [V.str (Str.ofString "do"), V.str (Str.ofString "say"), V.str (Str.ofString "return"), V.str (Str.ofString "raise")]) rfl (fun _ _ q => q) (by show 4 ≤ sizeLine; decide) rfl (b := false) (by decide +kernel) fun H12 s12 => ?_
        refine iteF ?_
        refine ⟨_, rfl, rfl, _, rfl, ?_⟩
        refine ite2 (fun _ => ?_) (fun c => absurd (by decide +kernel) c)
        have sA := (((Same.refl H4).trans s11).trans s12)
        have hx := atl_stl h6
        have hxl := hx.len
        have hb := atl_stl h7
        have hbl := hb.len
        have la := stl_len a_
        have lb := stl_len b
        have hn_ : 1 + nE e + nSs a_ + nSs b ≤ 1000 := hn1
        refine ⟨_, rfl, p, _, _, _, rfl, rfl, SqT.of (sA _ _ hp), atI_nat (j := 1) rfl, by show 1 ≤ sizeLine; decide, fun L1 hL1 => ?_⟩
        have u1 := same_new hL1 (.lst [ve])
        refine ⟨_, rfl, p, _, _, _, rfl, rfl, SqT.of (u1 _ _ (sA _ _ hp)), atI_nat (j := 2) rfl, q, _, rfl, .inr (SqT.of (u1 _ _ (sA _ _ hq))), fun L2 hL2 => ?_⟩
        have u2 := same_new hL2 (.lst xs)
        refine ⟨_, _, _, _, rfl, rfl, u2 _ _ upd_same, upd_same, by rw [sizeLine_eq]; show 1 + _ ≤ _; omega, fun L3 hL3 => ?_⟩
        have u3 := ((sA.trans u1).trans u2).trans (same_new hL3 (.lst ([ve] ++ xs)))
        refine ⟨_, rfl, p, _, _, _, rfl, rfl, SqT.of (u3 _ _ hp), atI_nat (j := 3) rfl, r, _, rfl, .inr (SqT.of (u3 _ _ hr_)), fun L4 hL4 => ?_⟩
        have u4 := same_new hL4 (.lst ys)
        refine ⟨_, _, _, _, rfl, rfl, u4 _ _ upd_same, upd_same, by rw [List.length_append, sizeLine_eq]; show 1 + xs.length + _ ≤ _; omega, fun L5 hL5 => ?_⟩
        have u5 := (u3.trans u4).trans (same_new hL5 (.lst (([ve] ++ xs) ++ ys)))
        refine ⟨_, rfl, _, rfl, ?_⟩
        obtain ⟨c1, c2, c3, c4, c5⟩ := kc H4 _ (.s (.iff e a_ b)) _ u5 f4 gq (by show 2 ≤ 2 * _ + 2; omega) hh1 hn1 hfl1
        exact ⟨L5, parts (.s (.iff e a_ b)), _, hl, fl, hid ++ blkP (.s (.iff e a_ b)), _, c1, rfl, (.inl ⟨upd_same, ne_free ((u3.trans u4) _ _ f4) hL5⟩), (atl_app (a := Nd.e e :: stl a_) (b := stl b) (xs := ve :: xs) (ys := ys) ⟨ve, xs, rfl, AtE.on (same_tups u5) _ _ h5, AtL.on (same_tups u5) (fun _ _ h => AtN.on (same_tups u5) h) hx⟩ (AtL.on (same_tups u5) (fun _ _ h => AtN.on (same_tups u5) h) hb)), c2, (by rw [show hid ++ blkP _ = hid from List.append_nil _]; exact u5 _ _ hl4), hne, c3, c4, c5, fun H7 s7 f7 => kN H7 ((SB.same u5).trans s7) f7⟩
      | whl e a_ =>
        obtain ⟨p, ve, q, xs, rfl, hp, hq, h5, h6⟩ := hat4
        rw [show wordN (.s (.whl e a_)) = Str.ofString "while" from rfl]
        refine in_test4 (zs := [V.str (Str.ofString "set"), V.str (Str.ofString "setfield")]) rfl (fun _ _ q => q) (by show 2 ≤ sizeLine; decide) rfl (b := false) (by decide +kernel) fun H11 s11 => ?_
        refine iteF ?_
        refine in_test4 (zs := [V.str (Str.ofString "do"), V.str (Str.ofString "say"), V.str (Str.ofString "return"), V.str (Str.ofString "raise")]) rfl (fun _ _ q => q) (by show 4 ≤ sizeLine; decide) rfl (b := false) (by decide +kernel) fun H12 s12 => ?_
        refine iteF ?_
        refine ⟨_, rfl, rfl, _, rfl, ?_⟩
        refine ite2 (fun c => absurd c (by decide +kernel)) (fun _ => ?_)
        refine ⟨_, rfl, rfl, _, rfl, ?_⟩
        refine ite2 (fun _ => ?_) (fun c => absurd (by decide +kernel) c)
        have sA := (((Same.refl H4).trans s11).trans s12)
        have hx := atl_stl h6
        have hxl := hx.len
        have la := stl_len a_
        have hn_ : 1 + nE e + nSs a_ ≤ 1000 := hn1
        refine ⟨_, rfl, p, _, _, _, rfl, rfl, SqT.of (sA _ _ hp), atI_nat (j := 1) rfl, by show 1 ≤ sizeLine; decide, fun L1 hL1 => ?_⟩
        have u1 := same_new hL1 (.lst [ve])
        refine ⟨_, rfl, p, _, _, _, rfl, rfl, SqT.of (u1 _ _ (sA _ _ hp)), atI_nat (j := 2) rfl, q, _, rfl, .inr (SqT.of (u1 _ _ (sA _ _ hq))), fun L2 hL2 => ?_⟩
        have u2 := same_new hL2 (.lst xs)
        refine ⟨_, _, _, _, rfl, rfl, u2 _ _ upd_same, upd_same, by rw [sizeLine_eq]; show 1 + _ ≤ _; omega, fun L3 hL3 => ?_⟩
        have u3 := ((sA.trans u1).trans u2).trans (same_new hL3 (.lst ([ve] ++ xs)))
        refine ⟨_, rfl, _, rfl, ?_⟩
        obtain ⟨c1, c2, c3, c4, c5⟩ := kc H4 _ (.s (.whl e a_)) _ u3 f4 gq (by show 2 ≤ 2 * _ + 2; omega) hh1 hn1 hfl1
        exact ⟨L3, parts (.s (.whl e a_)), _, hl, fl, hid ++ blkP (.s (.whl e a_)), _, c1, rfl, (.inl ⟨upd_same, ne_free (((sA.trans u1).trans u2) _ _ f4) hL3⟩), ⟨ve, xs, rfl, AtE.on (same_tups u3) _ _ h5, AtL.on (same_tups u3) (fun _ _ h => AtN.on (same_tups u3) h) hx⟩, c2, (by rw [show hid ++ blkP _ = hid from List.append_nil _]; exact u3 _ _ hl4), hne, c3, c4, c5, fun H7 s7 f7 => kN H7 ((SB.same u3).trans s7) f7⟩
      | tri a_ z b =>
        obtain ⟨p, q, xs, r, ys, rfl, hp, hq, hr_, h6, h7⟩ := hat4
        rw [show wordN (.s (.tri a_ z b)) = Str.ofString "try" from rfl]
        refine in_test4 (zs := [V.str (Str.ofString "set"), V.str (Str.ofString "setfield")]) rfl (fun _ _ q => q) (by show 2 ≤ sizeLine; decide) rfl (b := false) (by decide +kernel) fun H11 s11 => ?_
        refine iteF ?_
        refine in_test4 (zs := [V.str (Str.ofString "do"), V.str (Str.ofString "say"), V.str (Str.ofString "return"), V.str (Str.ofString "raise")]) rfl (fun _ _ q => q) (by show 4 ≤ sizeLine; decide) rfl (b := false) (by decide +kernel) fun H12 s12 => ?_
        refine iteF ?_
        refine ⟨_, rfl, rfl, _, rfl, ?_⟩
        refine ite2 (fun c => absurd c (by decide +kernel)) (fun _ => ?_)
        refine ⟨_, rfl, rfl, _, rfl, ?_⟩
        refine ite2 (fun c => absurd c (by decide +kernel)) (fun _ => ?_)
        refine ⟨_, rfl, rfl, _, rfl, ?_⟩
        refine ite2 (fun _ => ?_) (fun c => absurd (by decide +kernel) c)
        have sA := (((Same.refl H4).trans s11).trans s12)
        have hx := atl_stl h6
        have hb := atl_stl h7
        have hxl := hx.len
        have hbl := hb.len
        have la := stl_len a_
        have lb := stl_len b
        have hn_ : 1 + nSs a_ + nSs b ≤ 1000 := hn1
        refine ⟨_, rfl, p, _, _, _, rfl, rfl, SqT.of (sA _ _ hp), atI_nat (j := 1) rfl, q, _, rfl, .inr (SqT.of (sA _ _ hq)), fun L1 hL1 => ?_⟩
        have u1 := same_new hL1 (.lst xs)
        refine ⟨_, rfl, p, _, _, _, rfl, rfl, SqT.of (u1 _ _ (sA _ _ hp)), atI_nat (j := 3) rfl, r, _, rfl, .inr (SqT.of (u1 _ _ (sA _ _ hr_))), fun L2 hL2 => ?_⟩
        have u2 := same_new hL2 (.lst ys)
        refine ⟨_, _, _, _, rfl, rfl, u2 _ _ upd_same, upd_same, by rw [sizeLine_eq]; omega, fun L3 hL3 => ?_⟩
        have u3 := ((sA.trans u1).trans u2).trans (same_new hL3 (.lst (xs ++ ys)))
        refine ⟨_, rfl, _, rfl, ?_⟩
        obtain ⟨c1, c2, c3, c4, c5⟩ := kc H4 _ (.s (.tri a_ z b)) _ u3 f4 gq (by show 2 ≤ 2 * _ + 2; omega) hh1 hn1 hfl1
        exact ⟨L3, parts (.s (.tri a_ z b)), _, hl, fl, hid ++ blkP (.s (.tri a_ z b)), _, c1, rfl, (.inl ⟨upd_same, ne_free (((sA.trans u1).trans u2) _ _ f4) hL3⟩), (atl_app (AtL.on (same_tups u3) (fun _ _ h => AtN.on (same_tups u3) h) hx) (AtL.on (same_tups u3) (fun _ _ h => AtN.on (same_tups u3) h) hb)), c2, (by rw [show hid ++ blkP _ = hid from List.append_nil _]; exact u3 _ _ hl4), hne, c3, c4, c5, fun H7 s7 f7 => kN H7 ((SB.same u3).trans s7) f7⟩
theorem knotWi (gL : mg "list" = none) (D : Dn K mg "_law_within" sWi) : ∀ h : Nat, C0 P w K mg base (h + 1) "_law_within" (spWi h)
  | 0 => c_wi0 0 D
  | h + 1 => c_wi (by omega) gL D (knotWi gL D h)
end
end My
set_option Elab.async false
set_option linter.all false
set_option maxRecDepth 100000
set_option maxHeartbeats 8000000
namespace My
open PySem L2 SS
abbrev sLaw : Stmt := top 21
/-! ### a word more at the end of the parameters changes nothing else -/
def zz : T := [122, 122]
theorem free_zz {w : T} (h : isFree w = true) : w ≠ zz := fun e => by
  rw [e] at h
  exact absurd h (by decide +kernel)
theorem name_free {n : Nd} {w : T} (e : nameN n = some w) (h : okN n) : isFree w = true := by
  cases n with
  | e x => cases e
  | s x =>
    cases x with
    | set z y => cases e; exact h.1
    | tri a z b => cases e; exact h.1
    | _ => cases e
theorem add_zz {n : Nd} (hn : okN n) (hid ps A : List T) : ∃ A', addN n hid (ps ++ A) = ps ++ (A ++ A') ∧ addN n hid (ps ++ zz :: A) = ps ++ zz :: (A ++ A') ∧ ∀ x ∈ A', x ∉ ps ∧ isFree x = true := by
  unfold addN
  cases e : nameN n with
  | none => exact ⟨[], by simp, by simp, fun x hx => by cases hx⟩
  | some w =>
    have hf := name_free e hn
    have hz := free_zz hf
    show ∃ A', (if w ∈ hid ∨ w ∈ ps ++ A then _ else _) = _ ∧ (if w ∈ hid ∨ w ∈ ps ++ zz :: A then _ else _) = _ ∧ _
    have hm : w ∈ ps ++ zz :: A ↔ w ∈ ps ++ A := by simp [hz]
    by_cases c : w ∈ hid ∨ w ∈ ps ++ A
    · rw [if_pos c, if_pos (by rw [hm]; exact c)]
      exact ⟨[], by simp, by simp, fun x hx => by cases hx⟩
    · rw [if_neg c, if_neg (by rw [hm]; exact c)]
      refine ⟨[w], by simp, by simp, fun x hx => ?_⟩
      obtain rfl : x = w := by simpa using hx
      exact ⟨fun h => c (.inr (List.mem_append_left _ h)), hf⟩
theorem wi_zz : ∀ (h : Nat) (qs : List Nd) (hid ps A : List T), (∀ q ∈ qs, okN q) → ∃ A', wiH h qs hid (ps ++ A) = ps ++ (A ++ A') ∧ wiH h qs hid (ps ++ zz :: A) = ps ++ zz :: (A ++ A') ∧ ∀ x ∈ A', x ∉ ps ∧ isFree x = true
  | 0, qs, hid, ps, A, _ => ⟨[], by show ps ++ A = _; simp, by show ps ++ zz :: A = _; simp, fun x hx => by cases hx⟩
  | h + 1, qs, hid, ps, A, hq => by
    rw [wiH_succ, wiH_succ]
    unfold wiL
    induction qs generalizing A with
    | nil => exact ⟨[], by simp, by simp, fun x hx => by cases hx⟩
    | cons q r ih =>
      rw [List.foldl_cons, List.foldl_cons]
      have hk := hq q List.mem_cons_self
      obtain ⟨B, b1, b2, b3⟩ := add_zz hk hid ps A
      obtain ⟨C, c1, c2, c3⟩ := wi_zz h (parts q) (hid ++ blkP q) ps (A ++ B) fun x hx => (parts_h q x hx).2 hk
      obtain ⟨E, e1, e2, e3⟩ := ih ((A ++ B) ++ C) fun x hx => hq x (List.mem_cons_of_mem _ hx)
      refine ⟨B ++ (C ++ E), ?_, ?_, fun x hx => ?_⟩
      · rw [show wiS h hid (ps ++ A) q = ps ++ ((A ++ B) ++ C) by unfold wiS; rw [b1, c1], e1]
        simp
      · rw [show wiS h hid (ps ++ zz :: A) q = ps ++ zz :: ((A ++ B) ++ C) by unfold wiS; rw [b2, c2], e2]
        simp
      · rcases List.mem_append.mp hx with hx | hx
        · exact b3 x hx
        · rcases List.mem_append.mp hx with hx | hx
          · exact c3 x hx
          · exact e3 x hx
def namesM (m : Me) : List T := wiH 26 (stl m.ss) [] m.ps
def plainM (m : Me) : Me := ⟨tk "m", m.ps, .cons (.set zz .non) m.ss⟩
theorem plain_gen (h : Nat) (ss : Sts) (ps : List T) (hn : zz ∉ ps) : wiH (h + 1 + 1) (.s (.set zz .non) :: stl ss) [] ps = wiH (h + 1 + 1) (stl ss) [] (ps ++ zz :: []) := by
  have e1 : addN (.s (.set zz .non)) [] ps = ps ++ zz :: [] := by
    show (if zz ∈ ([] : List T) ∨ zz ∈ ps then _ else _) = _
    exact if_neg fun c => c.elim (fun c => by cases c) hn
  have e2 : wiS (h + 1) [] ps (.s (.set zz .non)) = ps ++ zz :: [] := by
    unfold wiS
    rw [e1]
    have ep : parts (.s (.set zz .non)) = [.e .non] := rfl
    rw [ep, wiH_succ]
    unfold wiL
    rw [List.foldl_cons, List.foldl_nil]
    unfold wiS
    have ep2 : parts (.e .non) = [] := rfl
    rw [ep2, wiH_nil]
    rfl
  rw [wiH_succ, wiH_succ]
  unfold wiL
  rw [List.foldl_cons, e2]
theorem names_plain {m : Me} (h : okM m) : ∃ A, namesM m = m.ps ++ A ∧ namesM (plainM m) = m.ps ++ zz :: A ∧ ∀ x ∈ A, x ∉ m.ps ∧ isFree x = true := by
  obtain ⟨A, a1, a2, a3⟩ := wi_zz 26 (stl m.ss) [] m.ps [] fun q hq => by
    obtain ⟨y, rfl, _, h2⟩ := stl_h m.ss q hq
    exact h2 h.ss
  have hn : zz ∉ m.ps := fun hz => free_zz (h.ps _ hz) rfl
  have eg := plain_gen 24 m.ss m.ps hn
  refine ⟨A, ?_, ?_, a3⟩
  · unfold namesM
    rw [List.append_nil, List.nil_append] at a1
    exact a1
  · unfold namesM plainM
    rw [List.nil_append] at a2
    exact eg.trans a2
def notP (ps : List T) (w : T) : Bool := !decide (w ∈ ps)
theorem filt_names {ps A : List T} (h : ∀ x ∈ A, x ∉ ps) : (ps ++ A).filter (notP ps) = A := by
  have h1 : ps.filter (notP ps) = [] := List.filter_eq_nil_iff.mpr fun x hx => by simp [notP, hx]
  have h2 : A.filter (notP ps) = A := List.filter_eq_self.mpr fun x hx => by simp [notP, h x hx]
  rw [List.filter_append, h1, h2]
  rfl
theorem fit_ws {ws : List T} {n : Nat} (h : ∀ w ∈ ws, PyData.strOk (mk w) = true) (hn : 1 ≤ n) : Fit (dW ws) n := Fit.up (n := 1) (ft (n := 0) fun d hd => by
  obtain ⟨w, hw, rfl⟩ := List.mem_map.mp hd
  exact fit_s (h w hw)) hn
theorem dp_ws {K : PySem.W.Frag} {H : Hp} {p : Addr} {ws : List T} (h : H p = some (.tup (wsV ws))) : Dp K H (.ref p) (dW ws) := dp_w ⟨p, rfl, h⟩
theorem eq_same {K : PySem.W.Frag} {H : Hp} {x y : V} {d : PyData} {Q : VK} (h1 : Dp K H x d) (h2 : Dp K H y d) (c : d.canLay0 = true) (dp : d.depth ≤ 64) (q : Q (.bl true) H) : rEqD K x y H Q := by
  refine ⟨d, d, h1, h2, shaped_of c dp, shaped_of c dp, ?_⟩
  rw [SeqAt.eqv_refl d c]
  exact q
theorem catT_same {K : PySem.W.Frag} {H : Hp} {a b : Addr} {xs ys : List V} {Q : VK} (ha : H a = some (.tup xs)) (hb : H b = some (.tup ys)) (hx : xs ≠ []) (hl : xs.length + ys.length ≤ sizeLine) (k : ∀ H' p, Same H H' → H' p = some (.tup (xs ++ ys)) → Q (.ref p) H') : rCatT K (.ref a) (.ref b) H Q :=
  ⟨a, b, xs, ys, rfl, rfl, SqT.of ha, SqT.of hb, hx, hl, fun e => k H a (Same.refl H) (by rw [e, List.append_nil]; exact ha), fun e p hp => k _ p (same_new hp _) upd_same⟩
theorem catA_same {K : PySem.W.Frag} {H : Hp} {a b : Addr} {xs ys : List V} {Q : VK} (ha : H a = some (.tup xs)) (hb : H b = some (.tup ys)) (hl : xs.length + ys.length ≤ sizeLine) (k : ∀ H' p, Same H H' → H' p = some (.tup (xs ++ ys)) → Q (.ref p) H') : rCatA K (.ref a) (.ref b) H Q :=
  ⟨a, b, xs, ys, rfl, rfl, SqT.of ha, SqT.of hb, hl, fun e => k H b (Same.refl H) (by rw [e]; exact hb), fun _ e => k H a (Same.refl H) (by rw [e, List.append_nil]; exact ha), fun _ e p hp => k _ p (same_new hp _) upd_same⟩
theorem mk_zz : V.str (mk zz) = V.str (Str.ofString "zz") := by decide +kernel
theorem mk_m : V.str (mk (tk "m")) = V.str (Str.ofString "m") := by rw [mk_tl]
section
variable {P : Program} {w : World} {K : PySem.W.Frag} {mg : Str → Option Value} {base : Heap}
def spNm : Sp := fun vs H Q _ => ∃ (m : Me) (v : V), vs = [v] ∧ AtM H m v ∧ m.ps.length ≤ 3 ∧ gdSs m.ss ∧ oSs m.ss ≤ 12 ∧ nSs m.ss ≤ 1100 ∧ ∀ H' p, Same H H' → H' p = some (.tup (wsV (namesM m))) → Q (.ref p) H'
def spLaw (K : PySem.W.Frag) : Sp := fun vs H Q _ => ∃ (a : Addr) (ns : List Int), vs = [.ref a] ∧ SqL K H a (ns.map V.int) ∧ ns.length ≤ 63 ∧ ∀ H', Q (.bl true) H'
theorem scLaw : FnScope ["_law_script", "_law_deck_here", "_law_method_here", "_law_found", "_law_told", "_law_plain", "_law_rest", "_law_word_here"] ["_law_script"] (defScope sLaw) := ⟨rfl, rfl, rfl, by decide +kernel, rfl, by decide +kernel, by decide +kernel⟩
theorem ok_law {f : Addr} {fd : FuncData} (F : Fun K "law" "law" sLaw f fd) (TS : TxS K mg) (T0 : TxL mg) (gI : mg "isinstance" = none) (gL : mg "list" = none)
    (GD : C0 P w K mg base 1 "_law_deck" (spDeck K)) (GN : C0 P w K mg base 1 "_law_next" spNext) (GM : C0 P w K mg base 89 "_law_method" spGMx) (GW : C0 P w K mg base 89 "_law_within" (spWi 26))
    (P1 : C0 P w K mg base 89 "names_of" spNm) :
    FnOk P w K mg base CX0 90 f fd ["_law_script"] (spLaw K) := by
  refine F.ok scLaw (fun vs H Q E h => ?_) (fun cdv A outer s H vs Q E hr h => ?_)
  · obtain ⟨a, ns, rfl, _⟩ := h
    rfl
  obtain ⟨a, ns, rfl, hS, hns, k⟩ := h
  refine ⟨_, pss_cons (ps_set (i := 1) scLaw.nd rfl (Or.inl rfl) (pe_cc GD hr (by decide) pass0 (pa_cons (pv 0) pa_nil))) <|
    pss_cons (ps_set (i := 2) scLaw.nd rfl (Or.inr rfl) (pe_cc GM hr (by decide) pass0 (pa_cons (pv 1) (pa_cons (pe_op op_add pe_int (pe_op op_mod (pe_cc GN hr (by decide) pass0 (pa_cons (pv 1) pa_nil)) pe_int)) pa_nil)))) <|
    pss_cons (ps_set (i := 3) scLaw.nd rfl (Or.inl rfl) (pe_callTy call_list_of (by rfl) gL (by decide +kernel) (pa_cons (pe_ix ix_tup (pv 2) pe_int (fun _ _ => rfl)) pa_nil))) <|
    pss_cons (ps_expr (pe_cc GW hr (by decide) pass0 (pa_cons (pe_ix ix_tup (pv 2) pe_int (fun _ _ => rfl)) (pa_cons (pe_lst pa_nil) (pa_cons (pv 3) pa_nil))))) <|
    pss_cons (ps_set (i := 4) scLaw.nd rfl (Or.inl rfl) (pe_cc P1 hr (by decide) pass0 (pa_cons (pv 2) pa_nil))) <|
    pss_cons (ps_if (PW.pt (pw_or (pt_not (pt_val (pe_callB call_isi (by rfl) gI (by decide +kernel) (pa_cons (pv 4) (pa_cons (pe_bltn (v := .ty "tuple") (by rfl) TS.tup (by decide +kernel) rfl) pa_nil)))))
      (pw_or1 (pt_cmpR (op_neD hr.units) (pv 4) (pe_callTy call_tuple_of (by rfl) TS.tup (by decide +kernel) (pa_cons (pv 3) pa_nil)) (nomark _))))) (pss_one (ps_ret pe_bl)) pss_nil) <|
    pss_cons (ps_set (i := 5) scLaw.nd rfl (Or.inl rfl) (pe_tup (pa_cons pe_str (pa_cons pe_str (pa_cons (pe_ix ix_tup (pv 2) pe_int (fun _ _ => rfl)) (pa_cons (pe_op op_catT (pe_tup (pa_cons (pe_tup (pa_cons pe_str (pa_cons pe_str (pa_cons (pe_tup (pa_cons pe_str pa_nil)) pa_nil)))) pa_nil)) (pe_ix ix_tup (pv 2) pe_int (fun _ _ => rfl))) pa_nil)))))) <|
    pss_cons (ps_setLc (i := 6) (own := [("_law_word_here", 7)]) (g := gName 7) (by rfl) scLaw.nd rfl rfl (sw_true rfl rfl rfl (by decide +kernel)) (pi_list (pv 3))
        (blkOk_by (own := [("_law_word_here", 7)]) (N := ["_law_script", "_law_deck_here", "_law_method_here", "_law_found", "_law_told", "_law_plain", "_law_rest", "_law_word_here"]) (sc := defScope sLaw) (by decide +kernel))
        (fun _ _ _ _ _ => pg_name (i := 7) scLaw.nd rfl (Or.inl rfl)) (fun _ _ _ _ _ => pts_one (pt_cmpR (r := rIn K true) op_notIn_seq (pv 7) (pe_ix (r := rIxT K) ix_tup (pv 2) pe_int (fun _ _ => rfl)) (by rfl))) (fun _ _ _ _ _ => pv 7)) <|
    pss_one (ps_ret (pe_and (pe_cmpR (op_eqD hr.units) (pe_cc P1 hr (by decide) pass0 (pa_cons (pv 5) pa_nil)) (pe_op op_catT (pe_op op_catA (pe_ix ix_tup (pv 2) pe_int (fun _ _ => rfl)) (pe_tup (pa_cons pe_str pa_nil))) (pe_callTy call_tuple_of (by rfl) TS.tup (by decide +kernel) (pa_cons (pv 6) pa_nil))) (nomark _))
      (pe_one (pe_cmpR (op_eqD hr.units) (pe_cc P1 hr (by decide) pass0 (pa_cons (pe_tup (pa_cons pe_str (pa_cons pe_str (pa_cons (pe_tup pa_nil) (pa_cons (pe_tup pa_nil) pa_nil))))) pa_nil)) (pe_tup pa_nil) (nomark _))))), ?_⟩
  refine ⟨_, rfl, a, ns, rfl, hS, hns, fun H1 p l xs _ _ _ d0 => ?_⟩
  refine ⟨_, rfl, _, rfl, p, l, 0, 70, xs, rfl, d0, by omega, fun n1 h1 d1 => ?_⟩
  generalize upd H1 p _ = H2 at d1 ⊢
  obtain ⟨c1, ec1, hc1⟩ := emod_nat n1 (n := 12) (by decide)
  refine ⟨_, _, rfl, rfl, (by show (0 : Int) < 12; decide), _, _, rfl, rfl, c1 + 1, p, l, 1, 70, xs, _, rfl, ?_, by omega, d1, fun _ => by omega, fun h => by omega, fun m v H3 _ _ at3 okm g1 _ => ?_⟩
  · have e1 : n1 % 12 = ((c1 : Nat) : Int) := ec1
    show 1 + n1 % 12 = _
    omega
  have hns : nSs m.ss ≤ 1000 := by have := g1 (by decide); omega
  have gds := ok_gdSs m.ss okm.ss
  have hpl := okm.pl
  have hoo := okm.o
  obtain ⟨A, eA1, eA2, hA⟩ := names_plain okm
  have hNl : (namesM m).length ≤ 1003 := by
    have := wi_len 26 (stl m.ss) [] m.ps
    have := stl_n m.ss
    unfold namesM
    omega
  have hAl : A.length ≤ 1003 := by rw [eA1, List.length_append] at hNl; omega
  obtain ⟨pm, vw, q, ys, rfl, hm1, ⟨pw, rfl, hm2⟩, hm3, hm4⟩ := at3
  -- what is found
  refine ⟨_, rfl, pm, _, _, _, rfl, rfl, SqT.of hm1, atI_nat (j := 2) rfl, pw, _, rfl, .inr (SqT.of hm2), fun fl hfl => ?_⟩
  have s4 := same_new hfl (.lst (wsV m.ps))
  have f4 : upd H3 fl (.lst (wsV m.ps)) fl = some (.lst (wsV m.ps)) := upd_same
  have n1 := s4 _ _ hm1
  have n2 := s4 _ _ hm2
  have n3 := s4 _ _ hm3
  have n4 := AtSs.on (same_tups s4) _ _ hm4
  generalize upd H3 fl (.lst (wsV m.ps)) = H4 at f4 n1 n2 n3 n4 ⊢
  clear s4 hm1 hm2 hm3 hm4
  refine ⟨_, rfl, pm, _, _, _, rfl, rfl, SqT.of n1, atI_nat (j := 3) rfl, ?_⟩
  refine ⟨Nat.zero_le _, fun L hL => ?_⟩
  have s5 := same_new hL (.lst [])
  have f5 := s5 _ _ f4
  have hLf : L ≠ fl := ne_free f4 hL
  have hLL : upd H4 L (.lst []) L = some (.lst (wsV [])) := upd_same
  have m1 := s5 _ _ n1
  have m2 := s5 _ _ n2
  have m3 := s5 _ _ n3
  have m4 := AtSs.on (same_tups s5) _ _ n4
  generalize upd H4 L (.lst []) = H5 at f5 hLL m1 m2 m3 m4 ⊢
  refine ⟨_, rfl, q, stl m.ss, ys, L, fl, [], m.ps, by decide, rfl, .inr m3, atl_stl m4, fun x hx => ?_, hLL, hLf, f5, by decide, by have := stl_n m.ss; omega, fun H6 s6 f6 => ?_⟩
  · obtain ⟨i, hi⟩ := List.getElem?_of_mem hx
    have h1 := sum_take_le (stl m.ss) hi
    have h2 := stl_n m.ss
    refine ⟨stl_gd m.ss gds x hx, ?_, by omega⟩
    obtain ⟨y, rfl, h3, _⟩ := stl_h m.ss x hx
    show 2 * oS y + 2 ≤ 26
    omega
  have t6 := s6.tups f5
  have k1 := t6 _ _ m1
  have k2 := t6 _ _ m2
  have k3 := t6 _ _ m3
  have k4 := AtSs.on t6 _ _ m4
  have f6' : H6 fl = some (.lst (wsV (namesM m))) := f6
  clear s5 s6 t6 f6 f5 f4 hLL m1 m2 m3 m4 n1 n2 n3 n4 d1
  -- what the program tells
  refine ⟨_, rfl, m, _, rfl, ⟨pm, _, q, ys, rfl, k1, ⟨pw, rfl, k2⟩, k3, k4⟩, hpl, gds, hoo, by omega, fun H7 p7 s7 hp7 => ?_⟩
  refine ⟨_, rfl, .ref p7, .ty "tuple", _, _, true, rfl, .ty "tuple", .base (.tup hp7), kit_ty (by decide +kernel), _, rfl, iteF ?_⟩
  refine ⟨_, rfl, _, rfl, fl, _, rfl, .inl ⟨SqL.of (s7 _ _ f6'), fun tq htq => ?_⟩⟩
  have s8 := same_new htq (.tup (wsV (namesM m)))
  have hws : ∀ x ∈ namesM m, PyData.strOk (mk x) = true := fun x hx => by
    rw [eA1] at hx
    rcases List.mem_append.mp hx with hx | hx
    · exact str_free (okm.ps x hx)
    · exact str_free (hA x hx).2
  have fitN := fit_ws (n := 1) hws (by decide)
  refine ne_same (dp_ws (s8 _ _ hp7)) (dp_ws upd_same) fitN.1 (by have := fitN.2; omega) ⟨_, rfl, iteF ?_⟩
  have s68 := s7.trans s8
  have j1 := s68 _ _ k1
  have j2 := s68 _ _ k2
  have j3 := s68 _ _ k3
  have j4 := AtSs.on (same_tups s68) _ _ k4
  have fl8 := s68 _ _ f6'
  generalize upd H7 tq _ = H8 at j1 j2 j3 j4 fl8 ⊢
  clear s68 s7 s8 k1 k2 k3 k4 f6' hp7
  -- the plain one
  refine ⟨_, rfl, pm, _, _, _, rfl, rfl, SqT.of j1, atI_nat (j := 2) rfl, ?_⟩
  refine ⟨by show 1 ≤ sizeLine; decide, fun t1 ht1 => ?_⟩
  have u1 := same_new ht1 (.tup [S_ "none"])
  have x1 : upd H8 t1 (.tup [S_ "none"]) t1 = some (.tup [S_ "none"]) := upd_same
  refine ⟨by show 3 ≤ sizeLine; decide, fun t2 ht2 => ?_⟩
  have u2 := same_new ht2 (.tup [S_ "set", S_ "zz", .ref t1])
  refine ⟨by show 1 ≤ sizeLine; decide, fun t3 ht3 => ?_⟩
  have u3 := same_new ht3 (.tup [.ref t2])
  have e123 := (u1.trans u2).trans u3
  have x1' := u3 _ _ (u2 _ _ x1)
  have x2' := u3 _ _ (upd_same : upd _ t2 (HO.tup [S_ "set", S_ "zz", .ref t1]) t2 = _)
  have hyl : ys.length = (stl m.ss).length := (atl_stl j4).len
  have hsl := stl_len m.ss
  refine ⟨_, rfl, pm, _, _, _, rfl, rfl, SqT.of (e123 _ _ j1), atI_nat (j := 3) rfl, ?_⟩
  refine catT_same upd_same (e123 _ _ j3) (by simp) (by rw [sizeLine_eq]; show 1 + _ ≤ _; omega) fun H9 qq s9 hqq => ?_
  refine ⟨by show 4 ≤ sizeLine; decide, fun tp htp => ?_⟩
  have sp := same_new htp (.tup [S_ "method", S_ "m", .ref pw, .ref qq])
  have s10 := e123.trans (s9.trans sp)
  have s10' := s9.trans sp
  have atP : AtM (upd H9 tp (.tup [S_ "method", S_ "m", .ref pw, .ref qq])) (plainM m) (.ref tp) := by
    refine ⟨tp, .ref pw, qq, [.ref t2] ++ ys, rfl, ?_, ⟨pw, rfl, s10 _ _ j2⟩, sp _ _ hqq, ⟨.ref t2, ys, rfl, ⟨t2, .ref t1, rfl, ?_, ⟨t1, rfl, s10' _ _ x1'⟩⟩, AtSs.on (same_tups s10) _ _ j4⟩⟩
    · show _ = some (HO.tup [S_ "method", V.str (mk (tk "m")), .ref pw, .ref qq])
      rw [mk_m]
      exact upd_same
    · rw [mk_zz]
      exact s10' _ _ x2'
  have i1 := s10 _ _ j1
  have i2 := s10 _ _ j2
  have fl10 := s10 _ _ fl8
  generalize upd H9 tp (.tup [S_ "method", S_ "m", .ref pw, .ref qq]) = H10 at atP i1 i2 fl10 ⊢
  clear s10 s10' sp hqq s9 x1 x1' x2' e123 u1 u2 u3 ht1 ht2 ht3 j1 j2 j3 j4 fl8
  -- the rest
  refine ⟨_, rfl, fl, rfl, ⟨_, SqL.of fl10⟩, fun D0 hD0 => ?_⟩
  refine lc_list (K := K) (a := fl) (xs := wsV (namesM m)) (fun i H11 => Same H10 H11 ∧ H11 D0 = some (.lst (wsV (((namesM m).take i).filter (notP m.ps))))) ⟨same_new hD0 _, upd_same⟩ (fun i H11 _ h => SqL.of (h.1 _ _ fl10)) ?_ ?_
  · rintro i u H11 hu ⟨s11, h11⟩
    unfold wsV at hu
    rw [List.getElem?_map] at hu
    cases hw : (namesM m)[i]? with
    | none => rw [hw] at hu; cases hu
    | some z =>
      rw [hw] at hu
      obtain rfl : V.str (mk z) = u := Option.some.inj hu
      have et : ((namesM m).take (i + 1)).filter (notP m.ps) = ((namesM m).take i).filter (notP m.ps) ++ if notP m.ps z = true then [z] else [] := by
        rw [List.take_add_one, hw, List.filter_append]
        congr 1
        show List.filter (notP m.ps) [z] = _
        rw [List.filter_cons]
        rfl
      refine ⟨rfl, ?_⟩
      refine ⟨_, rfl, _, rfl, pm, _, _, _, rfl, rfl, SqT.of (s11 _ _ i1), atI_nat (j := 2) rfl, pw, _, rfl, .inr (SqT.of (s11 _ _ i2)), rfl, flat_ws _, _, rfl, ?_⟩
      show if (!inV (.str (mk z)) (wsV m.ps)) = true then _ else _
      rw [in_ws]
      refine ite2 (fun cc => ?_) (fun cc => ?_)
      · have cc' : notP m.ps z = true := cc
        rw [if_pos cc'] at et
        refine ⟨_, rfl, _, h11, ?_, ?_, ?_⟩
        · rw [wsV_len, sizeLine_eq]
          have h1 := List.length_filter_le (notP m.ps) ((namesM m).take i)
          have h2 : ((namesM m).take i).length ≤ (namesM m).length := by rw [List.length_take]; omega
          omega
        · intro b o h
          rw [upd_ne (ne_of_none h hD0)]
          exact s11 _ _ h
        · rw [upd_same, et, ← wsV_app]
          rfl
      · have cc' : ¬ notP m.ps z = true := cc
        rw [if_neg cc', List.append_nil] at et
        exact ⟨s11, by rw [et]; exact h11⟩
  rintro H11 ⟨s11, h11⟩
  rw [wsV_len, List.take_length, eA1, filt_names fun x hx => (hA x hx).1] at h11
  have i1' := s11 _ _ i1
  have i2' := s11 _ _ i2
  have hzs : ∀ x ∈ m.ps ++ zz :: A, PyData.strOk (mk x) = true := fun x hx => by
    rcases List.mem_append.mp hx with hx | hx
    · exact str_free (okm.ps x hx)
    · rcases List.mem_cons.mp hx with rfl | hx
      · decide +kernel
      · exact str_free (hA x hx).2
  have fitZ := fit_ws (n := 1) hzs (by decide)
  have hoP : oSs (plainM m).ss ≤ 12 := by
    have e : oSs (plainM m).ss = max (oS (.set zz .non)) (oSs m.ss) := rfl
    have e2 : oS (.set zz .non) = 0 := rfl
    omega
  have hnP : nSs (plainM m).ss ≤ 1100 := by
    have e : nSs (plainM m).ss = nS (.set zz .non) + nSs m.ss := rfl
    have e2 : nS (.set zz .non) = 2 := rfl
    omega
  refine ⟨_, rfl, plainM m, _, rfl, atP.on (same_tups s11), hpl, ⟨trivial, gds⟩, hoP, hnP, fun H12 p12 s12 hp12 => ?_⟩
  refine ⟨_, rfl, pm, _, _, _, rfl, rfl, SqT.of (s12 _ _ i1'), atI_nat (j := 2) rfl, ?_⟩
  refine ⟨by show 1 ≤ sizeLine; decide, fun t5 ht5 => ?_⟩
  have u5 := same_new ht5 (.tup [S_ "zz"])
  refine catA_same (u5 _ _ (s12 _ _ i2')) upd_same (by rw [wsV_len, sizeLine_eq]; show _ + 1 ≤ _; omega) fun H13 p13 s13 hp13 => ?_
  have s1213 := u5.trans s13
  refine ⟨_, rfl, D0, _, rfl, .inl ⟨SqL.of (s1213 _ _ (s12 _ _ h11)), fun t6 ht6 => ?_⟩⟩
  have u6 := same_new ht6 (.tup (wsV A))
  refine catT_same (u6 _ _ hp13) upd_same (by simp) (by rw [List.length_append, wsV_len, wsV_len, sizeLine_eq]; show _ + 1 + _ ≤ _; omega) fun H14 p14 s14 hp14 => ?_
  have ew : wsV m.ps ++ [S_ "zz"] ++ wsV A = wsV (m.ps ++ zz :: A) := by
    have e1 : [S_ "zz"] = wsV [zz] := by show [_] = [V.str (mk zz)]; rw [mk_zz]
    rw [e1, wsV_app, wsV_app, List.append_assoc]
    rfl
  rw [ew] at hp14
  rw [eA2] at hp12
  have s1214 := s1213.trans (u6.trans s14)
  refine eq_same (dp_ws (s1214 _ _ hp12)) (dp_ws hp14) fitZ.1 (by have := fitZ.2; omega) ⟨_, rfl, iteT ?_⟩
  -- of no statements
  refine ⟨Nat.zero_le _, fun y1 hy1 => ?_⟩
  have v1 : upd H14 y1 (.tup []) y1 = some (.tup []) := upd_same
  refine ⟨Nat.zero_le _, fun y2 hy2 => ?_⟩
  have w2 := same_new hy2 (.tup [])
  have v2 : upd (upd H14 y1 (.tup [])) y2 (.tup []) y2 = some (.tup []) := upd_same
  refine ⟨by show 4 ≤ sizeLine; decide, fun y3 hy3 => ?_⟩
  have w3 := same_new hy3 (.tup [S_ "method", S_ "m", .ref y1, .ref y2])
  refine ⟨⟨tk "m", [], .nil⟩, _, rfl, ⟨y3, .ref y1, y2, [], rfl, by rw [mk_m]; exact upd_same, ⟨y1, rfl, w3 _ _ (w2 _ _ v1)⟩, w3 _ _ v2, rfl⟩, Nat.zero_le _, trivial, Nat.zero_le _, Nat.zero_le _, fun H15 p15 s15 hp15 => ?_⟩
  have en : namesM ⟨tk "m", [], .nil⟩ = [] := wiH_nil 26 [] []
  rw [en] at hp15
  refine ⟨Nat.zero_le _, fun y4 hy4 => ?_⟩
  have w4 := same_new hy4 (.tup [])
  exact eq_same (dp_ws (ws := []) (w4 _ _ hp15)) (dp_ws (ws := []) upd_same) (by decide +kernel) (by decide +kernel) (k _)
end
end My
set_option Elab.async false
set_option linter.all false
set_option maxRecDepth 100000
set_option maxHeartbeats 4000000
namespace L2
open PySem PySem.Spec PyProof.Rows HT
/-! ### t[::-1] of a tuple -/
section
variable {prog : Program} {w : World} {A : Around} {E : Value → Shared → Prop} {s : Shared}
theorem adjust_rev (n : Nat) : Builtin.Slice.sliceAdjust none none (-1) (n : Int) = ((n : Int) - 1, -1) := rfl
theorem places_rev (n : Nat) : Builtin.Slice.slicePlaces ((n : Int) - 1) (-1) (-1) = n := by
  unfold Builtin.Slice.slicePlaces
  have h1 : ¬ ((-1 : Int) > 0) := by decide
  by_cases h : (n : Int) - 1 > -1
  · simp only [h1, if_false, h, if_true]
    rw [show (-(-1) : Int) = 1 by decide, Int.ediv_one]
    omega
  · simp only [h1, if_false, h]
    omega
theorem pick_rev (xs : Array Value) : ((List.range xs.size).filterMap fun (m : Nat) => xs[(((xs.size : Int) - 1) + (m : Int) * (-1)).toNat]?).toArray = xs.toList.reverse.toArray := by
  have e : (List.range xs.size).filterMap (fun (m : Nat) => xs[(((xs.size : Int) - 1) + (m : Int) * (-1)).toNat]?) = ((List.range xs.size).map fun k => xs.size - 1 - k).filterMap (xs[·]?) := by
    rw [List.filterMap_map]
    have gen : ∀ (l : List Nat), (∀ m ∈ l, m < xs.size) → l.filterMap (fun (m : Nat) => xs[(((xs.size : Int) - 1) + (m : Int) * (-1)).toNat]?) = l.filterMap ((xs[·]?) ∘ fun k => xs.size - 1 - k) := fun l => by
      induction l with
      | nil => intro _; rfl
      | cons m r ih =>
        intro hl
        have hm := hl m List.mem_cons_self
        have e : (((xs.size : Int) - 1) + (m : Int) * (-1)).toNat = xs.size - 1 - m := by omega
        have e2 : (xs[(((xs.size : Int) - 1) + (m : Int) * (-1)).toNat]?) = ((xs[·]?) ∘ fun k => xs.size - 1 - k) m := by rw [e]; rfl
        rw [List.filterMap_cons, List.filterMap_cons, ih fun x hx => hl x (List.mem_cons_of_mem _ hx), e2]
    exact gen _ fun m hm => List.mem_range.mp hm
  rw [e, PySem.W.krv_range, List.filterMap_reverse, PySem.W.krv_all]
theorem sliceApplied_rev {sl : Addr} {vl vu vs : Value} {n : Nat} {Q : Int × Int × Nat → Shared → Prop} (hs : s.heap.IsSliceOf sl vl vu vs) (pl : IsPart vl none) (pu : IsPart vu none) (ps : IsPart vs (some (-1)))
    (h : Q ((n : Int) - 1, -1, n) s) : wpAny (model prog w) A (Builtin.Slice.sliceApplied (.ref sl) (pure (n : Int))) Q E s := by
  obtain ⟨os, hos, hcs, hds⟩ := id hs
  unfold Builtin.Slice.sliceApplied Builtin.Slice.sliceFields
  refine wpAny_bind (wpAny_bind (wpAny_field hos hds (x := vl) rfl (wpAny_bind (wpAny_field hos hds (x := vu) rfl (wpAny_bind (wpAny_field hos hds (x := vs) rfl (wpAny_pure ?_)))))))
  refine wpAny_bind (slicePart_ ps ?_)
  show wpAny _ _ (if ((-1 : Int) == 0) = true then _ else _) _ _ s
  rw [if_neg (by decide)]
  refine wpAny_bind (slicePart_ pl (wpAny_bind (slicePart_ pu (wpAny_bind (wpAny_pure ?_)))))
  show wpAny _ _ (match Builtin.Slice.sliceAdjust none none (-1) (n : Int) with | (lo, hi) => pure (lo, (-1 : Int), Builtin.Slice.slicePlaces lo hi (-1))) _ _ s
  rw [adjust_rev n]
  show wpAny _ _ (pure ((n : Int) - 1, (-1 : Int), Builtin.Slice.slicePlaces ((n : Int) - 1) (-1) (-1))) _ _ s
  rw [places_rev]
  exact wpAny_pure h
theorem getItem_tuple_rev {t sl : Addr} {items : Array Value} {vl vu vs : Value} {Q : Value → Shared → Prop} (ht : IsTup s.heap t items) (hs : s.heap.IsSliceOf sl vl vu vs) (pl : IsPart vl none) (pu : IsPart vu none) (ps : IsPart vs (some (-1)))
    (h : Q (.ref s.heap.objs.size) { s with heap := s.heap.push { cls := .type "tuple", data := .seq items.toList.reverse.toArray } })
    (hsz : items.size ≤ sizeLine) : wpAny (model prog w) A (getItem (.ref t) (.ref sl)) Q E s := by
  have htake : sizeOk (.seq items.toList.reverse.toArray) := by
    show items.toList.reverse.toArray.size ≤ sizeLine
    rw [List.size_toArray, List.length_reverse, Array.length_toList]
    exact hsz
  obtain ⟨os, hos, hcs, hds⟩ := id hs
  have hTs : s.TypeIs (.ref sl) "slice" := ⟨os, hos, hcs⟩
  unfold getItem
  try with_reducible refine wpAny_holding ?_
  first | refine wpAny_bind (wpAny_pure ?_) | skip
  refine wpAny_bind (wpAny_sequenceKey ht.typeIs (by decide) ?_)
  refine wpAny_bind (wpAny_callSpecial?_slot (name := Str.ofString "__getitem__") ht.typeIs PyProof.Rows.slot_tuple_getitem
    (wpAny_call_entry PyProof.Rows.slot_tuple_getitem ht.typeIs entry_tuple_getitem ?_ (args_tuple_getitem _ _)))
  show wpAny _ _ (Builtin.Tuple.tupleItemsOf (.ref t) >>= _) _ _ s
  refine wpAny_bind (tupleItemsOf_ ht ?_)
  refine wpAny_bind (wpAny_typeOf hTs ?_)
  rw [if_pos (by decide)]
  refine wpAny_bind (sliceApplied_rev hs pl pu ps ?_)
  have hno : ¬ ((((items.size : Int) - 1) == 0 && (-1 : Int) == 1 && items.size == items.size) = true) := by
    intro q
    rw [Bool.and_eq_true, Bool.and_eq_true] at q
    exact absurd q.1.2 (by decide)
  show wpAny _ _ (if (((items.size : Int) - 1) == 0 && (-1 : Int) == 1 && items.size == items.size) = true then _ else _) _ _ s
  rw [if_neg hno, pick_rev]
  first
    | exact wpAny_bind (m := Builtin.Tuple.tupleExact _) (wpAny_newObj_type (wpAny_pure ⟨_, rfl, wpAny_pure h⟩) htake)
    | exact wpAny_bind (m := Builtin.Tuple.tupleExact _) (wpAny_newObj_type (wpAny_bind (wpAny_pure (wpAny_pure ⟨_, rfl, wpAny_pure h⟩))) htake)
    | exact wpAny_bind (wpAny_bind (m := Builtin.Tuple.tupleExact _) (wpAny_newObj_type (wpAny_pure (wpAny_pure ⟨_, rfl, wpAny_pure h⟩)) htake))
    | exact wpAny_bind (wpAny_bind (m := Builtin.Tuple.tupleExact _) (wpAny_newObj_type (wpAny_pure ⟨_, rfl, wpAny_pure h⟩) htake))
end
def tRevT (K : PySem.W.Frag) (te : TE) : TE := fun σ H Q => te σ H fun x H1 => ∃ a xs, x = .ref a ∧ SqT K H1 a xs ∧ ∀ p, H1 p = none → Q (.ref p) (upd H1 p (.tup xs.reverse))
theorem pe_revT {X : Cx} {te : TE} {e : Expr} {k : Nat} {p1 p2 p3 pos : Pos} (he : PE X e te) : PE X (.Subscript e (.Slice none none (some (.UnaryOp .USub (.Constant (.int 1) k p1) p2)) p3) pos) (tRevT X.K te) := by
  refine ⟨fun pins s σ H Q I h => ?_⟩
  refine Subscript_ (thn (he.run pins s σ H _ I h) fun v s1 ⟨x, H1, I1, r1, q1⟩ => ?_)
  obtain ⟨a, xs, ex, hx, q⟩ := q1
  subst ex
  cases r1
  have hst : PO X (some (.UnaryOp .USub (.Constant (.int 1) k p1) p2)) (tPart (tUn (rU fun i => .int (-i)) (tC (.int 1)))) := po_some (pe_un un_neg pe_int)
  refine wpAny_Slice (thn (po_none.run pins s1 σ H1 (fun o H2 => o = none ∧ H2 = H1) I1 ⟨rfl, rfl⟩) fun vl s2 ⟨l, H2, I2, pl, el, e2⟩ => ?_)
  subst el e2
  refine thn (po_none.run pins s2 σ H2 (fun o H3 => o = none ∧ H3 = H2) I2 ⟨rfl, rfl⟩) fun vu s3 ⟨u, H3, I3, pu, eu, e3⟩ => ?_
  subst eu e3
  refine thn (hst.run pins s3 σ H3 (fun o H4 => o = some (-1) ∧ H4 = H3) I3 ⟨1, rfl, -1, rfl, rfl, rfl⟩) fun vs s4 ⟨o, H4, I4, ps, eo, e4⟩ => ?_
  subst eo e4
  have I5 : Inv X pins σ H4 { s4 with heap := s4.heap.push { cls := .type "slice", data := .fields #[vl, vu, vs] } } := I4.kept (t' := s4.toks) fun b ob q => Heap.get?_push_of_some _ q
  obtain ⟨its, r, ht, hz⟩ := I5.tuple hx
  have hlen := r.length
  show wpAny (model X.prog X.w) X.A (subscriptTail e (.Slice none none (some (.UnaryOp .USub (.Constant (.int 1) k p1) p2)) p3) (.ref a) (.ref s4.heap.objs.size)) (EP X pins σ Q) X.xe { s4 with heap := s4.heap.push { cls := .type "slice", data := .fields #[vl, vu, vs] } }
  refine tail_any (ops := [.ref a, .ref s4.heap.objs.size]) ht.typeIs (PyProof.Rows.slot_tuple_getitem.lookup) ?_ (by with_unfolding_all rfl)
  refine getItem_tuple_rev ht (Heap.IsSliceOf.new _ vl vu vs) pl pu ps ?_ (by rw [List.size_toArray]; omega)
  refine ⟨.ref _, _, I5.laid (t' := s4.toks) (o := .tup xs.reverse) (fun b ob q => Heap.get?_push_of_some _ q) (Nat.le_refl _) ?_, rfl, q _ (I5.hok.fresh (Nat.le_refl _))⟩
  exact ⟨by rw [List.length_reverse]; exact hz, its.reverse, r.reverse, IsTup.new _ _⟩
/-! ### enumerate(tuple) -/
/-- the items xs of the tuple at a, each in a new pair -/
def IeT (K : PySem.W.Frag) (a : Addr) (xs : List V) : It :=
  ⟨fun i H => i < xs.length ∧ SqT K H a xs, fun i H v H' => ∃ T x, v = .ref T ∧ H T = none ∧ H' = upd H T (.tup [.int (i : Nat), x]) ∧ xs[i]? = some x, fun i H => xs.length = i ∧ SqT K H a xs⟩
theorem tup_ne_it {h : Heap} {a it : Addr} {i : Nat} {its : Array Value} (p : IsTup h a its) (hit : h.IsTupleIter it a i) : a ≠ it := fun z => by
  obtain ⟨o, ho, hcl, hd⟩ := hit
  obtain ⟨o2, ho2, hcl2, _⟩ := p
  rw [z, ho] at ho2
  have := Option.some.inj ho2
  subst this
  rw [hcl] at hcl2
  injection hcl2 with z9
  exact absurd z9 (by decide)
theorem turn_enumT {P : Program} {w : World} {K : PySem.W.Frag} {elts : List Expr} {kk : Nat} {tpos : Pos} (a e it : Addr) (xs : List V) :
    Turn P w K (.Tuple elts kk tpos) (IeT K a xs) [e, it] e (fun i h => (∃ old, IsEnum h e it ((i : Nat) : Int) old) ∧ h.IsTupleIter it a i ∧ e ≠ it) where
  mem := by simp
  obj := fun i h st b hb => by
    obtain ⟨⟨old, he⟩, ⟨o, ho, hc, hd⟩, _⟩ := st
    have e' : b = e ∨ b = it := by simpa using hb
    rcases e' with z | z
    · rw [z]; exact ⟨_, he, fun v q => nomatch q⟩
    · rw [z]; exact ⟨o, ho, fun v q => by rw [hd] at q; cases q⟩
  keep := fun i h h' st k => let ⟨⟨old, he⟩, hi, hne⟩ := st; ⟨⟨old, k e (by simp) _ he⟩, hi.at fun o q => k it (by simp) o q, hne⟩
  item := by
    intro X hP hw hK hc i pins s σ H E I hf st hg
    subst hP hw hK
    obtain ⟨⟨old, he⟩, hit, hne⟩ := st
    obtain ⟨hlt, hq⟩ := hg
    have hx : xs[i]? = some xs[i] := by simp [hlt]
    generalize xs[i] = x at hx
    obtain ⟨its, rv, p, hz⟩ := I.tuple hq
    obtain ⟨u0, hu, ru⟩ := rv.get hx
    have hel : e < s.heap.objs.size := Heap.lt_size he
    have hil : it < s.heap.objs.size := by obtain ⟨_, q, _⟩ := hit; exact Heap.lt_size q
    have hia : a ≠ it := tup_ne_it p hit
    have hea : e ≠ a := fun z => by
      obtain ⟨o2, ho2, hcl2, _⟩ := p
      rw [← z, he] at ho2
      have := Option.some.inj ho2
      subst this
      injection hcl2 with z9
      exact absurd z9 (by decide)
    have D := Draws.tuple (prog := X.prog) (w := X.w) (A := X.A.in1) (I.ok.hd hc) it a hia its.toArray
    have hlen : i < its.toArray.size := by
      have := rv.length
      simp
      omega
    refine wpAny_pyNext_enum_itemC D he ⟨hit, p⟩ hlen hne (by simp [hne, hea]) fun v h' tk hv ho hit' hT hsz hk => ?_
    have ev : v = u0 := by
      have z : its.toArray[i]? = some v := hv
      have z2 : its.toArray[i]? = some u0 := by simpa using hu
      rw [z2] at z
      exact (Option.some.inj z).symm
    subst ev
    refine ⟨_, rfl, wpAny_letOwnedTupleGo_enum (s := { s with heap := h', toks := tk + 1 }) ho fun h'' he' sb => ?_⟩
    have hT2 : h''.get? s.heap.objs.size = some { cls := .type "tuple", data := .seq #[.int ((i : Nat) : Int) tk, v] } := (sb.2 _ (Nat.ne_of_gt hel)).trans hT
    have new : ObjOk X.prog X.w (upd H s.heap.objs.size (.tup [.int ((i : Nat) : Int), x])) h'' s.heap.objs.size (.tup [.int ((i : Nat) : Int), x]) :=
      ⟨by show 2 ≤ sizeLine; decide, [.int ((i : Nat) : Int) tk, v], .cons ⟨_, rfl⟩ (.cons ru .nil), ⟨_, hT2, rfl, _, rfl⟩⟩
    have I1 : Inv X pins σ (upd H s.heap.objs.size (.tup [.int ((i : Nat) : Int), x])) { s with heap := h'', toks := tk + 1 } :=
      I.turnedNew (ch := [e, it]) (fun b ob hb q => (sb.2 b (fun z => hb (by simp [z]))).trans (hk b ob (fun z => hb (by simp [z])) (fun z => hb (by simp [z])) q)) hf (Nat.le_refl _) new
    refine ⟨.ref s.heap.objs.size, _, I1, rfl, ⟨_, x, rfl, I.hok.fresh (Nat.le_refl _), rfl, hx⟩, ⟨⟨v, ?_⟩, hit'.1.at fun o q => (sb.2 it (Ne.symm hne)).trans q, hne⟩, fun b hb => ?_⟩
    · have e1 : ((i + 1 : Nat) : Int) = (i : Int) + 1 := by omega
      rw [e1]; exact he'
    · have hb' : b < s.heap.objs.size := by
        have e' : b = e ∨ b = it := by simpa using hb
        rcases e' with z | z
        · rw [z]; exact hel
        · rw [z]; exact hil
      rw [upd_ne (Nat.ne_of_lt hb')]
      exact (hf b hb).1
  done := by
    intro X hP hw hK hc i pins s σ H E I hf st hg
    subst hP hw hK
    obtain ⟨⟨old, he⟩, hit, hne⟩ := st
    obtain ⟨hlt, hq⟩ := hg
    obtain ⟨its, rv, p, hz⟩ := I.tuple hq
    obtain ⟨f0, f1, f2, f3, f4, f5⟩ := hf it (by simp)
    have hia : a ≠ it := tup_ne_it p hit
    have D := Draws.tuple (prog := X.prog) (w := X.w) (A := X.A.in1) (I.ok.hd hc) it a hia its.toArray
    have e1 : i = its.toArray.size := by
      have := rv.length
      simp
      omega
    subst e1
    exact wpAny_pyNext_enum_endD D he ⟨hit, p⟩ fun h' eb => ⟨rfl, I.turned (t' := s.toks) (fun b o hb q => eb b o hb q) f0 f1 f3 f4 f5⟩
  self := fun A i s Q E st h => let ⟨⟨_, he⟩, _⟩ := st; wpAny_pyIter_enum he h
theorem call_enumT {prog : Program} {w : World} {A : Around} {E : Value → Shared → Prop} {s : Shared} {t : Addr} {items : Array Value} {Q : Value → Shared → Prop} (ht : IsTup s.heap t items)
    (h : ∀ h', IsEnum h' (s.heap.objs.size + 1) s.heap.objs.size 0 .none → h'.IsTupleIter s.heap.objs.size t 0 → h'.objs.size = s.heap.objs.size + 2 →
      (∀ b o, s.heap.get? b = some o → h'.get? b = some o) → Q (.ref (s.heap.objs.size + 1)) { s with heap := h' }) :
    wpAny (model prog w) A (call (.type "enumerate") [.ref t]) Q E s := by
  have B := begins_tuple t items
  refine callType_new F.called_enumerate (by decide) (F.typeCall_enumerate_1 _) (F.newCall_enumerate_1 _) (fun obj => F.args_object_init_2 obj _) F.entry_enumerate_new
    (PySem.W.meets_enumerate_new1 B) ⟨ht, ?_⟩
  have hz : (s.heap.push { cls := .type "tuple_iterator", data := .fields #[.ref t, .int 0 0] }).objs.size = s.heap.objs.size + 1 := Heap.size_push ..
  show _ ∧ _
  rw [hz]
  have he : IsEnum ((s.heap.push { cls := .type "tuple_iterator", data := .fields #[.ref t, .int 0 0] }).push { cls := .type "enumerate", data := .fields #[.none, .bool false, .ref s.heap.objs.size, rawInt 0, .none, .none] }) (s.heap.objs.size + 1) s.heap.objs.size 0 .none := by
    have := Heap.get?_push_size (s.heap.push { cls := .type "tuple_iterator", data := .fields #[.ref t, .int 0 0] }) (o := { cls := .type "enumerate", data := .fields #[.none, .bool false, .ref s.heap.objs.size, rawInt 0, .none, .none] }) rfl
    rw [hz] at this; exact this
  exact ⟨⟨_, he, rfl⟩, h _ he ⟨_, Heap.get?_push_of_some _ (Heap.get?_push_size _ B.free), rfl, rfl⟩ (by rw [Heap.size_push, hz]) fun b o x => Heap.get?_push_of_some _ (Heap.get?_push_of_some _ x)⟩
def iEnumT (K : PySem.W.Frag) (ta : TA) : TI := fun σ H R => ta σ H fun vs H1 => ∃ (a : Addr) (xs : List V), vs = [.ref a] ∧ SqT K H1 a xs ∧ R (IeT K a xs) H1
theorem pi_enumT {X : Cx} {e : Expr} {ta : TA} {p pos tpos : Pos} {elts : List Expr} {kk : Nat} (hg : Gl X "enumerate") (hm : X.mg "enumerate" = none) (ha : PA X [e] ta) (hs : starEach [e] X.env = [(false, eval e X.env)] := by rfl) :
    PI X (.Tuple elts kk tpos) (.Call (.Name "enumerate" p) [e] [] pos) (iEnumT X.K ta) := by
  refine ⟨fun pins s σ H R I h => ?_⟩
  refine Call_ (ld_blt I hg hm boot_enumerate (PyProof.Rows.callWith_type1 (thn (ha.run pos pins s σ H _ I h) fun us s1 ⟨vs, H1, I1, r1, q1⟩ => ?_) hs rfl))
  obtain ⟨a, xs, ex, hq, q⟩ := q1
  subst ex
  cases r1 with
  | cons r rr =>
    cases rr
    cases r
    obtain ⟨its, rv, p', hz⟩ := I1.tuple hq
    refine call_enumT p' fun h' he hit hsz hk => wpAny_pyIter_enum he ?_
    have I2 : Inv X pins σ H1 { s1 with heap := h' } := I1.kept (t' := s1.toks) hk
    refine ⟨s1.heap.objs.size + 1, [s1.heap.objs.size + 1, s1.heap.objs.size], _, _, H1, rfl, I2, turn_enumT a (s1.heap.objs.size + 1) s1.heap.objs.size xs, ⟨⟨.none, he⟩, hit, Nat.succ_ne_self _⟩, fun b hb => ?_, q⟩
    have e' : b = s1.heap.objs.size + 1 ∨ b = s1.heap.objs.size := by simpa using hb
    have hle : s1.heap.objs.size ≤ b := by
      rcases e' with z | z
      · rw [z]; exact Nat.le_add_right _ _
      · rw [z]; exact Nat.le_refl _
    exact I1.fpOk hle (I1.hok.fresh hle)
end L2
set_option Elab.async false
set_option linter.all false
set_option maxRecDepth 100000
set_option maxHeartbeats 8000000
namespace My
open PySem L2 SS
def AtR (H : Hp) (q : Nd × Int) (v : V) : Prop := ∃ p vn, v = .ref p ∧ H p = some (.tup [vn, .int q.2]) ∧ AtN H q.1 vn
theorem AtR.on {H H' : Hp} (t : Tups H H') {q : Nd × Int} {v : V} (h : AtR H q v) : AtR H' q v := by
  obtain ⟨p, vn, e, h1, h2⟩ := h
  exact ⟨p, vn, e, t _ _ h1, h2.on t⟩
theorem gone_len : ∀ (h : Nat) (n : Nd) (c : Int) (a : Nat), hN n ≤ h → (goneH h n c a).length = nN n
  | 0, n, c, a, hh => by have := hN_pos n; omega
  | h + 1, n, c, a, hh => by
    rw [goneH_succ, List.length_cons, ← parts_n n]
    congr 1
    have key : ∀ (qs : List Nd) (c : Int) (a : Nat), (∀ q ∈ qs, hN q < hN n) → (goneL h qs c a).length = (qs.map nN).sum := fun qs c a hq => by
      have gen : ∀ (qs : List Nd) (acc : List (Nd × Int)), (∀ q ∈ qs, hN q < hN n) → (qs.foldl (fun acc q => acc ++ goneH h q c (a + acc.length)) acc).length = acc.length + (qs.map nN).sum := fun qs => by
        induction qs with
        | nil => intro acc _; simp
        | cons q r ih =>
          intro acc hr
          have hq := hr q List.mem_cons_self
          rw [List.foldl_cons, ih _ fun x hx => hr x (List.mem_cons_of_mem _ hx), List.length_append, gone_len h q c _ (by omega), List.map_cons, List.sum_cons]
          omega
      have := gen qs [] hq
      unfold goneL
      rw [this]
      simp
    exact key _ _ _ fun q hq => (parts_h n q hq).1
theorem blk_word {H : Hp} {n : Nd} {v : V} (h : AtN H n v) (hok : gdN n) : ∃ p z rest, v = .ref p ∧ H p = some (.tup (.str z :: rest)) ∧ decide (V.str z = V.str (Str.ofString "block")) = isBlk n := by
  cases n with
  | e x =>
    cases x with
    | send r m es => obtain ⟨p, vr, q, xs, rfl, hp, _⟩ := h; exact ⟨p, _, _, rfl, hp, (by show decide _ = false; decide +kernel)⟩
    | up m es => obtain ⟨p, q, xs, rfl, hp, _⟩ := h; exact ⟨p, _, _, rfl, hp, (by show decide _ = false; decide +kernel)⟩
    | lst es => obtain ⟨p, q, xs, rfl, hp, _⟩ := h; exact ⟨p, _, _, rfl, hp, (by show decide _ = false; decide +kernel)⟩
    | blk ps ss => obtain ⟨p, vw, q, xs, rfl, hp, _⟩ := h; exact ⟨p, _, _, rfl, hp, (by show decide _ = true; decide +kernel)⟩
    | num n => obtain ⟨p, rfl, hp⟩ := h; exact ⟨p, _, _, rfl, hp, (by show decide _ = false; decide +kernel)⟩
    | txt n => obtain ⟨p, rfl, hp⟩ := h; exact ⟨p, _, _, rfl, hp, (by show decide _ = false; decide +kernel)⟩
    | tru n => obtain ⟨p, rfl, hp⟩ := h; exact ⟨p, _, _, rfl, hp, (by show decide _ = false; decide +kernel)⟩
    | non => obtain ⟨p, rfl, hp⟩ := h; exact ⟨p, _, _, rfl, hp, (by show decide _ = false; decide +kernel)⟩
    | slf => obtain ⟨p, rfl, hp⟩ := h; exact ⟨p, _, _, rfl, hp, (by show decide _ = false; decide +kernel)⟩
    | nam n => obtain ⟨p, rfl, hp⟩ := h; exact ⟨p, _, _, rfl, hp, (by show decide _ = false; decide +kernel)⟩
    | fld n => obtain ⟨p, rfl, hp⟩ := h; exact ⟨p, _, _, rfl, hp, (by show decide _ = false; decide +kernel)⟩
    | new n => obtain ⟨p, rfl, hp⟩ := h; exact ⟨p, _, _, rfl, hp, (by show decide _ = false; decide +kernel)⟩
  | s x =>
    cases x with
    | set z e => obtain ⟨p, ve, rfl, hp, _⟩ := h; exact ⟨p, _, _, rfl, hp, (by show decide _ = false; decide +kernel)⟩
    | sfl z e => obtain ⟨p, ve, rfl, hp, _⟩ := h; exact ⟨p, _, _, rfl, hp, (by show decide _ = false; decide +kernel)⟩
    | pl z e =>
      obtain ⟨p, ve, rfl, hp, _⟩ := h
      refine ⟨p, _, _, rfl, hp, ?_⟩
      have hz : isPl z = true := hok.1
      show decide _ = false
      rcases pl_cases hz with h | h | h | h <;> (rw [h, mk_tl]; decide +kernel)
    | iff e a b => obtain ⟨p, ve, q, xs, r, ys, rfl, hp, _⟩ := h; exact ⟨p, _, _, rfl, hp, (by show decide _ = false; decide +kernel)⟩
    | whl e a => obtain ⟨p, ve, q, xs, rfl, hp, _⟩ := h; exact ⟨p, _, _, rfl, hp, (by show decide _ = false; decide +kernel)⟩
    | tri a z b => obtain ⟨p, q, xs, r, ys, rfl, hp, _⟩ := h; exact ⟨p, _, _, rfl, hp, (by show decide _ = false; decide +kernel)⟩
end My
set_option Elab.async false
set_option linter.all false
set_option maxRecDepth 100000
set_option maxHeartbeats 8000000
namespace My
open PySem L2 SS
abbrev sPt : Stmt := top 5
theorem in_testT {K : PySem.W.Frag} {σ : L2.St} {H : Hp} {Qb : Bool → Hp → Prop} {z : Str} {zs : List V} {t : TA} (hσ : σ[1]? = some (some (V.str z))) (ht : ∀ H Q, Q zs H → t σ H Q) (hl : zs.length ≤ sizeLine) (hf : zs.all flatV = true) {b : Bool} (hb : inV (.str z) zs = b) (k : ∀ H', Same H H' → Qb b H') : tTest (tOp (rIn K false) (tVar 1) (tTup t)) σ H Qb := by
  refine ⟨_, hσ, ht _ _ ⟨hl, fun L hL => ⟨L, _, rfl, .inr (SqT.of upd_same), rfl, hf, _, rfl, ?_⟩⟩⟩
  show Qb (inV (.str z) zs) _
  rw [hb]
  exact k _ (same_new hL _)
section
variable {P : Program} {w : World} {K : PySem.W.Frag} {mg : Str → Option Value} {base : Heap}
def spPt : Sp := fun vs H Q _ => ∃ (n : Nd) (v : V), vs = [v] ∧ AtN H n v ∧ gdN n ∧ nN n ≤ 1100 ∧ ∀ H' a us, Same H H' → H' a = some (.tup us) → AtL AtN H' (parts n) us → Q (.ref a) H'
theorem scPt : FnScope ["node", "sort", "_", "test", "first", "second", "statements", "receiver", "worths"] ["node"] (defScope sPt) := ⟨rfl, rfl, rfl, by decide +kernel, rfl, by decide +kernel, by decide +kernel⟩
theorem c_pt (D : Dn K mg "parts_of" sPt) : C0 P w K mg base 1 "parts_of" spPt := by
  obtain ⟨f, fd, F, m⟩ := D.ex
  refine ⟨f, fd, ["node"], F.ok scPt (fun vs H Q E h => ?_) (fun cdv A outer s H vs Q E hr h => ?_), m, F.kp, F.binds (ps := ["node"]) fun _ _ _ _ _ _ us hl => match us, hl with | [_], _ => rfl⟩
  · obtain ⟨n, v, rfl, _⟩ := h
    rfl
  obtain ⟨n, v, rfl, hat, hok, hn, kq⟩ := h
  refine ⟨_, pss_cons (ps_set (i := 1) scPt.nd rfl (Or.inl rfl) (pe_ix ix_tup (pv 0) pe_int (fun _ _ => rfl))) <|
    pss_cons (ps_if (pt_cmpR op_in_seq (pv 1) (pe_tup (pa_cons pe_str (pa_cons pe_str (pa_cons pe_str (pa_cons pe_str pa_nil))))) (by rfl)) (pss_one (ps_ret (pe_slice sl_tup (pv 0) (po_some pe_int) po_none))) pss_nil) <|
    pss_cons (ps_if (pt_cmpR op_in_seq (pv 1) (pe_tup (pa_cons pe_str (pa_cons pe_str pa_nil))) (by rfl)) (pss_one (ps_ret (pe_slice sl_tup (pv 0) (po_some pe_int) po_none))) pss_nil) <|
    pss_cons (ps_if (pt_cmpR op_eq (pv 1) pe_str (nomark _)) (pss_cons (ps_asg (pv 0) (pg_tup (by rfl) (pgs_cons (pg_name (i := 2) scPt.nd rfl (Or.inl rfl)) (pgs_cons (pg_name (i := 3) scPt.nd rfl (Or.inl rfl)) (pgs_cons (pg_name (i := 4) scPt.nd rfl (Or.inl rfl)) (pgs_cons (pg_name (i := 5) scPt.nd rfl (Or.inl rfl)) pgs_nil)))))) (pss_one (ps_ret (pe_tup (pa_cons (pv 3) (StX.pa_star (pv 4) (StX.pa_star (pv 5) pa_nil))))))) pss_nil) <|
    pss_cons (ps_if (pt_cmpR op_eq (pv 1) pe_str (nomark _)) (pss_cons (ps_asg (pv 0) (pg_tup (by rfl) (pgs_cons (pg_name (i := 2) scPt.nd rfl (Or.inl rfl)) (pgs_cons (pg_name (i := 3) scPt.nd rfl (Or.inl rfl)) (pgs_cons (pg_name (i := 6) scPt.nd rfl (Or.inl rfl)) pgs_nil))))) (pss_one (ps_ret (pe_tup (pa_cons (pv 3) (StX.pa_star (pv 6) pa_nil)))))) pss_nil) <|
    pss_cons (ps_if (pt_cmpR op_eq (pv 1) pe_str (nomark _)) (pss_cons (ps_asg (pv 0) (pg_tup (by rfl) (pgs_cons (pg_name (i := 2) scPt.nd rfl (Or.inl rfl)) (pgs_cons (pg_name (i := 4) scPt.nd rfl (Or.inl rfl)) (pgs_cons (pg_name (i := 2) scPt.nd rfl (Or.inl rfl)) (pgs_cons (pg_name (i := 5) scPt.nd rfl (Or.inl rfl)) pgs_nil)))))) (pss_one (ps_ret (pe_op op_catA (pv 4) (pv 5))))) pss_nil) <|
    pss_cons (ps_if (pt_cmpR op_eq (pv 1) pe_str (nomark _)) (pss_cons (ps_asg (pv 0) (pg_tup (by rfl) (pgs_cons (pg_name (i := 2) scPt.nd rfl (Or.inl rfl)) (pgs_cons (pg_name (i := 7) scPt.nd rfl (Or.inl rfl)) (pgs_cons (pg_name (i := 2) scPt.nd rfl (Or.inl rfl)) (pgs_cons (pg_name (i := 8) scPt.nd rfl (Or.inl rfl)) pgs_nil)))))) (pss_one (ps_ret (pe_tup (pa_cons (pv 7) (StX.pa_star (pv 8) pa_nil)))))) pss_nil) <|
    pss_cons (ps_if (pt_cmpR op_in_seq (pv 1) (pe_tup (pa_cons pe_str (pa_cons pe_str (pa_cons pe_str pa_nil)))) (by rfl)) (pss_one (ps_ret (pe_ix ix_tup (pv 0) (pe_un un_neg pe_int) (fun _ _ => rfl)))) pss_nil) <|
    pss_one (ps_ret (pe_tup pa_nil)), ?_⟩
  cases n with
  | e x =>
    cases x with
    | num n =>
      obtain ⟨p, rfl, hp⟩ := hat
      refine ⟨_, rfl, p, _, _, _, rfl, rfl, SqT.of hp, atI_0, ?_⟩
      refine in_testT (zs := [V.str (Str.ofString "do"), V.str (Str.ofString "say"), V.str (Str.ofString "return"), V.str (Str.ofString "raise")]) rfl (fun _ _ q => q) (by show 4 ≤ sizeLine; decide) rfl (b := false) (by decide +kernel) fun H1 s1 => ?_
      refine iteF ?_
      refine in_testT (zs := [V.str (Str.ofString "set"), V.str (Str.ofString "setfield")]) rfl (fun _ _ q => q) (by show 2 ≤ sizeLine; decide) rfl (b := false) (by decide +kernel) fun H2 s2 => ?_
      refine iteF ?_
      refine ⟨_, rfl, rfl, _, rfl, ?_⟩
      refine ite2 (fun c => absurd c (by decide +kernel)) (fun _ => ?_)
      refine ⟨_, rfl, rfl, _, rfl, ?_⟩
      refine ite2 (fun c => absurd c (by decide +kernel)) (fun _ => ?_)
      refine ⟨_, rfl, rfl, _, rfl, ?_⟩
      refine ite2 (fun c => absurd c (by decide +kernel)) (fun _ => ?_)
      refine ⟨_, rfl, rfl, _, rfl, ?_⟩
      refine ite2 (fun c => absurd c (by decide +kernel)) (fun _ => ?_)
      refine in_testT (zs := [V.str (Str.ofString "up"), V.str (Str.ofString "list"), V.str (Str.ofString "block")]) rfl (fun _ _ q => q) (by show 3 ≤ sizeLine; decide) rfl (b := false) (by decide +kernel) fun H7 s7 => ?_
      refine iteF ?_
      have sA := ((((Same.refl H).trans s1).trans s2).trans s7)
      exact ⟨Nat.zero_le _, fun L hL => kq _ L [] (sA.trans (same_new hL _)) upd_same rfl⟩
    | txt z =>
      obtain ⟨p, rfl, hp⟩ := hat
      refine ⟨_, rfl, p, _, _, _, rfl, rfl, SqT.of hp, atI_0, ?_⟩
      refine in_testT (zs := [V.str (Str.ofString "do"), V.str (Str.ofString "say"), V.str (Str.ofString "return"), V.str (Str.ofString "raise")]) rfl (fun _ _ q => q) (by show 4 ≤ sizeLine; decide) rfl (b := false) (by decide +kernel) fun H1 s1 => ?_
      refine iteF ?_
      refine in_testT (zs := [V.str (Str.ofString "set"), V.str (Str.ofString "setfield")]) rfl (fun _ _ q => q) (by show 2 ≤ sizeLine; decide) rfl (b := false) (by decide +kernel) fun H2 s2 => ?_
      refine iteF ?_
      refine ⟨_, rfl, rfl, _, rfl, ?_⟩
      refine ite2 (fun c => absurd c (by decide +kernel)) (fun _ => ?_)
      refine ⟨_, rfl, rfl, _, rfl, ?_⟩
      refine ite2 (fun c => absurd c (by decide +kernel)) (fun _ => ?_)
      refine ⟨_, rfl, rfl, _, rfl, ?_⟩
      refine ite2 (fun c => absurd c (by decide +kernel)) (fun _ => ?_)
      refine ⟨_, rfl, rfl, _, rfl, ?_⟩
      refine ite2 (fun c => absurd c (by decide +kernel)) (fun _ => ?_)
      refine in_testT (zs := [V.str (Str.ofString "up"), V.str (Str.ofString "list"), V.str (Str.ofString "block")]) rfl (fun _ _ q => q) (by show 3 ≤ sizeLine; decide) rfl (b := false) (by decide +kernel) fun H7 s7 => ?_
      refine iteF ?_
      have sA := ((((Same.refl H).trans s1).trans s2).trans s7)
      exact ⟨Nat.zero_le _, fun L hL => kq _ L [] (sA.trans (same_new hL _)) upd_same rfl⟩
    | tru b =>
      obtain ⟨p, rfl, hp⟩ := hat
      refine ⟨_, rfl, p, _, _, _, rfl, rfl, SqT.of hp, atI_0, ?_⟩
      refine in_testT (zs := [V.str (Str.ofString "do"), V.str (Str.ofString "say"), V.str (Str.ofString "return"), V.str (Str.ofString "raise")]) rfl (fun _ _ q => q) (by show 4 ≤ sizeLine; decide) rfl (b := false) (by decide +kernel) fun H1 s1 => ?_
      refine iteF ?_
      refine in_testT (zs := [V.str (Str.ofString "set"), V.str (Str.ofString "setfield")]) rfl (fun _ _ q => q) (by show 2 ≤ sizeLine; decide) rfl (b := false) (by decide +kernel) fun H2 s2 => ?_
      refine iteF ?_
      refine ⟨_, rfl, rfl, _, rfl, ?_⟩
      refine ite2 (fun c => absurd c (by decide +kernel)) (fun _ => ?_)
      refine ⟨_, rfl, rfl, _, rfl, ?_⟩
      refine ite2 (fun c => absurd c (by decide +kernel)) (fun _ => ?_)
      refine ⟨_, rfl, rfl, _, rfl, ?_⟩
      refine ite2 (fun c => absurd c (by decide +kernel)) (fun _ => ?_)
      refine ⟨_, rfl, rfl, _, rfl, ?_⟩
      refine ite2 (fun c => absurd c (by decide +kernel)) (fun _ => ?_)
      refine in_testT (zs := [V.str (Str.ofString "up"), V.str (Str.ofString "list"), V.str (Str.ofString "block")]) rfl (fun _ _ q => q) (by show 3 ≤ sizeLine; decide) rfl (b := false) (by decide +kernel) fun H7 s7 => ?_
      refine iteF ?_
      have sA := ((((Same.refl H).trans s1).trans s2).trans s7)
      exact ⟨Nat.zero_le _, fun L hL => kq _ L [] (sA.trans (same_new hL _)) upd_same rfl⟩
    | non =>
      obtain ⟨p, rfl, hp⟩ := hat
      refine ⟨_, rfl, p, _, _, _, rfl, rfl, SqT.of hp, atI_0, ?_⟩
      refine in_testT (zs := [V.str (Str.ofString "do"), V.str (Str.ofString "say"), V.str (Str.ofString "return"), V.str (Str.ofString "raise")]) rfl (fun _ _ q => q) (by show 4 ≤ sizeLine; decide) rfl (b := false) (by decide +kernel) fun H1 s1 => ?_
      refine iteF ?_
      refine in_testT (zs := [V.str (Str.ofString "set"), V.str (Str.ofString "setfield")]) rfl (fun _ _ q => q) (by show 2 ≤ sizeLine; decide) rfl (b := false) (by decide +kernel) fun H2 s2 => ?_
      refine iteF ?_
      refine ⟨_, rfl, rfl, _, rfl, ?_⟩
      refine ite2 (fun c => absurd c (by decide +kernel)) (fun _ => ?_)
      refine ⟨_, rfl, rfl, _, rfl, ?_⟩
      refine ite2 (fun c => absurd c (by decide +kernel)) (fun _ => ?_)
      refine ⟨_, rfl, rfl, _, rfl, ?_⟩
      refine ite2 (fun c => absurd c (by decide +kernel)) (fun _ => ?_)
      refine ⟨_, rfl, rfl, _, rfl, ?_⟩
      refine ite2 (fun c => absurd c (by decide +kernel)) (fun _ => ?_)
      refine in_testT (zs := [V.str (Str.ofString "up"), V.str (Str.ofString "list"), V.str (Str.ofString "block")]) rfl (fun _ _ q => q) (by show 3 ≤ sizeLine; decide) rfl (b := false) (by decide +kernel) fun H7 s7 => ?_
      refine iteF ?_
      have sA := ((((Same.refl H).trans s1).trans s2).trans s7)
      exact ⟨Nat.zero_le _, fun L hL => kq _ L [] (sA.trans (same_new hL _)) upd_same rfl⟩
    | slf =>
      obtain ⟨p, rfl, hp⟩ := hat
      refine ⟨_, rfl, p, _, _, _, rfl, rfl, SqT.of hp, atI_0, ?_⟩
      refine in_testT (zs := [V.str (Str.ofString "do"), V.str (Str.ofString "say"), V.str (Str.ofString "return"), V.str (Str.ofString "raise")]) rfl (fun _ _ q => q) (by show 4 ≤ sizeLine; decide) rfl (b := false) (by decide +kernel) fun H1 s1 => ?_
      refine iteF ?_
      refine in_testT (zs := [V.str (Str.ofString "set"), V.str (Str.ofString "setfield")]) rfl (fun _ _ q => q) (by show 2 ≤ sizeLine; decide) rfl (b := false) (by decide +kernel) fun H2 s2 => ?_
      refine iteF ?_
      refine ⟨_, rfl, rfl, _, rfl, ?_⟩
      refine ite2 (fun c => absurd c (by decide +kernel)) (fun _ => ?_)
      refine ⟨_, rfl, rfl, _, rfl, ?_⟩
      refine ite2 (fun c => absurd c (by decide +kernel)) (fun _ => ?_)
      refine ⟨_, rfl, rfl, _, rfl, ?_⟩
      refine ite2 (fun c => absurd c (by decide +kernel)) (fun _ => ?_)
      refine ⟨_, rfl, rfl, _, rfl, ?_⟩
      refine ite2 (fun c => absurd c (by decide +kernel)) (fun _ => ?_)
      refine in_testT (zs := [V.str (Str.ofString "up"), V.str (Str.ofString "list"), V.str (Str.ofString "block")]) rfl (fun _ _ q => q) (by show 3 ≤ sizeLine; decide) rfl (b := false) (by decide +kernel) fun H7 s7 => ?_
      refine iteF ?_
      have sA := ((((Same.refl H).trans s1).trans s2).trans s7)
      exact ⟨Nat.zero_le _, fun L hL => kq _ L [] (sA.trans (same_new hL _)) upd_same rfl⟩
    | nam z =>
      obtain ⟨p, rfl, hp⟩ := hat
      refine ⟨_, rfl, p, _, _, _, rfl, rfl, SqT.of hp, atI_0, ?_⟩
      refine in_testT (zs := [V.str (Str.ofString "do"), V.str (Str.ofString "say"), V.str (Str.ofString "return"), V.str (Str.ofString "raise")]) rfl (fun _ _ q => q) (by show 4 ≤ sizeLine; decide) rfl (b := false) (by decide +kernel) fun H1 s1 => ?_
      refine iteF ?_
      refine in_testT (zs := [V.str (Str.ofString "set"), V.str (Str.ofString "setfield")]) rfl (fun _ _ q => q) (by show 2 ≤ sizeLine; decide) rfl (b := false) (by decide +kernel) fun H2 s2 => ?_
      refine iteF ?_
      refine ⟨_, rfl, rfl, _, rfl, ?_⟩
      refine ite2 (fun c => absurd c (by decide +kernel)) (fun _ => ?_)
      refine ⟨_, rfl, rfl, _, rfl, ?_⟩
      refine ite2 (fun c => absurd c (by decide +kernel)) (fun _ => ?_)
      refine ⟨_, rfl, rfl, _, rfl, ?_⟩
      refine ite2 (fun c => absurd c (by decide +kernel)) (fun _ => ?_)
      refine ⟨_, rfl, rfl, _, rfl, ?_⟩
      refine ite2 (fun c => absurd c (by decide +kernel)) (fun _ => ?_)
      refine in_testT (zs := [V.str (Str.ofString "up"), V.str (Str.ofString "list"), V.str (Str.ofString "block")]) rfl (fun _ _ q => q) (by show 3 ≤ sizeLine; decide) rfl (b := false) (by decide +kernel) fun H7 s7 => ?_
      refine iteF ?_
      have sA := ((((Same.refl H).trans s1).trans s2).trans s7)
      exact ⟨Nat.zero_le _, fun L hL => kq _ L [] (sA.trans (same_new hL _)) upd_same rfl⟩
    | fld z =>
      obtain ⟨p, rfl, hp⟩ := hat
      refine ⟨_, rfl, p, _, _, _, rfl, rfl, SqT.of hp, atI_0, ?_⟩
      refine in_testT (zs := [V.str (Str.ofString "do"), V.str (Str.ofString "say"), V.str (Str.ofString "return"), V.str (Str.ofString "raise")]) rfl (fun _ _ q => q) (by show 4 ≤ sizeLine; decide) rfl (b := false) (by decide +kernel) fun H1 s1 => ?_
      refine iteF ?_
      refine in_testT (zs := [V.str (Str.ofString "set"), V.str (Str.ofString "setfield")]) rfl (fun _ _ q => q) (by show 2 ≤ sizeLine; decide) rfl (b := false) (by decide +kernel) fun H2 s2 => ?_
      refine iteF ?_
      refine ⟨_, rfl, rfl, _, rfl, ?_⟩
      refine ite2 (fun c => absurd c (by decide +kernel)) (fun _ => ?_)
      refine ⟨_, rfl, rfl, _, rfl, ?_⟩
      refine ite2 (fun c => absurd c (by decide +kernel)) (fun _ => ?_)
      refine ⟨_, rfl, rfl, _, rfl, ?_⟩
      refine ite2 (fun c => absurd c (by decide +kernel)) (fun _ => ?_)
      refine ⟨_, rfl, rfl, _, rfl, ?_⟩
      refine ite2 (fun c => absurd c (by decide +kernel)) (fun _ => ?_)
      refine in_testT (zs := [V.str (Str.ofString "up"), V.str (Str.ofString "list"), V.str (Str.ofString "block")]) rfl (fun _ _ q => q) (by show 3 ≤ sizeLine; decide) rfl (b := false) (by decide +kernel) fun H7 s7 => ?_
      refine iteF ?_
      have sA := ((((Same.refl H).trans s1).trans s2).trans s7)
      exact ⟨Nat.zero_le _, fun L hL => kq _ L [] (sA.trans (same_new hL _)) upd_same rfl⟩
    | new z =>
      obtain ⟨p, rfl, hp⟩ := hat
      refine ⟨_, rfl, p, _, _, _, rfl, rfl, SqT.of hp, atI_0, ?_⟩
      refine in_testT (zs := [V.str (Str.ofString "do"), V.str (Str.ofString "say"), V.str (Str.ofString "return"), V.str (Str.ofString "raise")]) rfl (fun _ _ q => q) (by show 4 ≤ sizeLine; decide) rfl (b := false) (by decide +kernel) fun H1 s1 => ?_
      refine iteF ?_
      refine in_testT (zs := [V.str (Str.ofString "set"), V.str (Str.ofString "setfield")]) rfl (fun _ _ q => q) (by show 2 ≤ sizeLine; decide) rfl (b := false) (by decide +kernel) fun H2 s2 => ?_
      refine iteF ?_
      refine ⟨_, rfl, rfl, _, rfl, ?_⟩
      refine ite2 (fun c => absurd c (by decide +kernel)) (fun _ => ?_)
      refine ⟨_, rfl, rfl, _, rfl, ?_⟩
      refine ite2 (fun c => absurd c (by decide +kernel)) (fun _ => ?_)
      refine ⟨_, rfl, rfl, _, rfl, ?_⟩
      refine ite2 (fun c => absurd c (by decide +kernel)) (fun _ => ?_)
      refine ⟨_, rfl, rfl, _, rfl, ?_⟩
      refine ite2 (fun c => absurd c (by decide +kernel)) (fun _ => ?_)
      refine in_testT (zs := [V.str (Str.ofString "up"), V.str (Str.ofString "list"), V.str (Str.ofString "block")]) rfl (fun _ _ q => q) (by show 3 ≤ sizeLine; decide) rfl (b := false) (by decide +kernel) fun H7 s7 => ?_
      refine iteF ?_
      have sA := ((((Same.refl H).trans s1).trans s2).trans s7)
      exact ⟨Nat.zero_le _, fun L hL => kq _ L [] (sA.trans (same_new hL _)) upd_same rfl⟩
    | send r m es =>
      obtain ⟨p, vr, q, xs, rfl, hp, hq, h3, h4⟩ := hat
      refine ⟨_, rfl, p, _, _, _, rfl, rfl, SqT.of hp, atI_0, ?_⟩
      refine in_testT (zs := [V.str (Str.ofString "do"), V.str (Str.ofString "say"), V.str (Str.ofString "return"), V.str (Str.ofString "raise")]) rfl (fun _ _ q => q) (by show 4 ≤ sizeLine; decide) rfl (b := false) (by decide +kernel) fun H1 s1 => ?_
      refine iteF ?_
      refine in_testT (zs := [V.str (Str.ofString "set"), V.str (Str.ofString "setfield")]) rfl (fun _ _ q => q) (by show 2 ≤ sizeLine; decide) rfl (b := false) (by decide +kernel) fun H2 s2 => ?_
      refine iteF ?_
      refine ⟨_, rfl, rfl, _, rfl, ?_⟩
      refine ite2 (fun c => absurd c (by decide +kernel)) (fun _ => ?_)
      refine ⟨_, rfl, rfl, _, rfl, ?_⟩
      refine ite2 (fun c => absurd c (by decide +kernel)) (fun _ => ?_)
      refine ⟨_, rfl, rfl, _, rfl, ?_⟩
      refine ite2 (fun c => absurd c (by decide +kernel)) (fun _ => ?_)
      refine ⟨_, rfl, rfl, _, rfl, ?_⟩
      refine ite2 (fun _ => ?_) (fun c => absurd (by decide +kernel) c)
      have sA := (((Same.refl H).trans s1).trans s2)
      have hl := exl_len es
      have hx := atl_exl h4
      have hxl := hx.len
      have hn' : 1 + nE r + nEs es ≤ 1100 := hn
      refine ⟨_, rfl, p, _, rfl, SqT.of (sA _ _ hp), rfl, _, _, rfl, _, _, rfl, _, _, rfl, _, _, rfl, rfl, ?_⟩
      refine ⟨_, rfl, _, rfl, q, xs, rfl, .inl (SqT.of (sA _ _ hq)), by rw [List.append_nil, List.length_cons, sizeLine_eq]; omega, fun L hL => ?_⟩
      rw [List.append_nil]
      have u := sA.trans (same_new hL (.tup (vr :: xs)))
      exact kq _ L _ u upd_same ⟨vr, xs, rfl, AtE.on (same_tups u) _ _ h3, AtL.on (same_tups u) (fun _ _ h => AtN.on (same_tups u) h) hx⟩
    | up m es =>
      obtain ⟨p, q, xs, rfl, hp, hq, h4⟩ := hat
      refine ⟨_, rfl, p, _, _, _, rfl, rfl, SqT.of hp, atI_0, ?_⟩
      refine in_testT (zs := [V.str (Str.ofString "do"), V.str (Str.ofString "say"), V.str (Str.ofString "return"), V.str (Str.ofString "raise")]) rfl (fun _ _ q => q) (by show 4 ≤ sizeLine; decide) rfl (b := false) (by decide +kernel) fun H1 s1 => ?_
      refine iteF ?_
      refine in_testT (zs := [V.str (Str.ofString "set"), V.str (Str.ofString "setfield")]) rfl (fun _ _ q => q) (by show 2 ≤ sizeLine; decide) rfl (b := false) (by decide +kernel) fun H2 s2 => ?_
      refine iteF ?_
      refine ⟨_, rfl, rfl, _, rfl, ?_⟩
      refine ite2 (fun c => absurd c (by decide +kernel)) (fun _ => ?_)
      refine ⟨_, rfl, rfl, _, rfl, ?_⟩
      refine ite2 (fun c => absurd c (by decide +kernel)) (fun _ => ?_)
      refine ⟨_, rfl, rfl, _, rfl, ?_⟩
      refine ite2 (fun c => absurd c (by decide +kernel)) (fun _ => ?_)
      refine ⟨_, rfl, rfl, _, rfl, ?_⟩
      refine ite2 (fun c => absurd c (by decide +kernel)) (fun _ => ?_)
      refine in_testT (zs := [V.str (Str.ofString "up"), V.str (Str.ofString "list"), V.str (Str.ofString "block")]) rfl (fun _ _ q => q) (by show 3 ≤ sizeLine; decide) rfl (b := true) (by decide +kernel) fun H7 s7 => ?_
      refine iteT ?_
      have sA := ((((Same.refl H).trans s1).trans s2).trans s7)
      exact ⟨_, rfl, 1, rfl, p, _, -1, _, rfl, rfl, SqT.of (sA _ _ hp), rfl, kq _ q _ sA (sA _ _ hq) (AtL.on (same_tups sA) (fun _ _ h => AtN.on (same_tups sA) h) (atl_exl h4))⟩
    | lst es =>
      obtain ⟨p, q, xs, rfl, hp, hq, h4⟩ := hat
      refine ⟨_, rfl, p, _, _, _, rfl, rfl, SqT.of hp, atI_0, ?_⟩
      refine in_testT (zs := [V.str (Str.ofString "do"), V.str (Str.ofString "say"), V.str (Str.ofString "return"), V.str (Str.ofString "raise")]) rfl (fun _ _ q => q) (by show 4 ≤ sizeLine; decide) rfl (b := false) (by decide +kernel) fun H1 s1 => ?_
      refine iteF ?_
      refine in_testT (zs := [V.str (Str.ofString "set"), V.str (Str.ofString "setfield")]) rfl (fun _ _ q => q) (by show 2 ≤ sizeLine; decide) rfl (b := false) (by decide +kernel) fun H2 s2 => ?_
      refine iteF ?_
      refine ⟨_, rfl, rfl, _, rfl, ?_⟩
      refine ite2 (fun c => absurd c (by decide +kernel)) (fun _ => ?_)
      refine ⟨_, rfl, rfl, _, rfl, ?_⟩
      refine ite2 (fun c => absurd c (by decide +kernel)) (fun _ => ?_)
      refine ⟨_, rfl, rfl, _, rfl, ?_⟩
      refine ite2 (fun c => absurd c (by decide +kernel)) (fun _ => ?_)
      refine ⟨_, rfl, rfl, _, rfl, ?_⟩
      refine ite2 (fun c => absurd c (by decide +kernel)) (fun _ => ?_)
      refine in_testT (zs := [V.str (Str.ofString "up"), V.str (Str.ofString "list"), V.str (Str.ofString "block")]) rfl (fun _ _ q => q) (by show 3 ≤ sizeLine; decide) rfl (b := true) (by decide +kernel) fun H7 s7 => ?_
      refine iteT ?_
      have sA := ((((Same.refl H).trans s1).trans s2).trans s7)
      exact ⟨_, rfl, 1, rfl, p, _, -1, _, rfl, rfl, SqT.of (sA _ _ hp), rfl, kq _ q _ sA (sA _ _ hq) (AtL.on (same_tups sA) (fun _ _ h => AtN.on (same_tups sA) h) (atl_exl h4))⟩
    | blk ps ss =>
      obtain ⟨p, vw, q, xs, rfl, hp, hq, hw, h4⟩ := hat
      refine ⟨_, rfl, p, _, _, _, rfl, rfl, SqT.of hp, atI_0, ?_⟩
      refine in_testT (zs := [V.str (Str.ofString "do"), V.str (Str.ofString "say"), V.str (Str.ofString "return"), V.str (Str.ofString "raise")]) rfl (fun _ _ q => q) (by show 4 ≤ sizeLine; decide) rfl (b := false) (by decide +kernel) fun H1 s1 => ?_
      refine iteF ?_
      refine in_testT (zs := [V.str (Str.ofString "set"), V.str (Str.ofString "setfield")]) rfl (fun _ _ q => q) (by show 2 ≤ sizeLine; decide) rfl (b := false) (by decide +kernel) fun H2 s2 => ?_
      refine iteF ?_
      refine ⟨_, rfl, rfl, _, rfl, ?_⟩
      refine ite2 (fun c => absurd c (by decide +kernel)) (fun _ => ?_)
      refine ⟨_, rfl, rfl, _, rfl, ?_⟩
      refine ite2 (fun c => absurd c (by decide +kernel)) (fun _ => ?_)
      refine ⟨_, rfl, rfl, _, rfl, ?_⟩
      refine ite2 (fun c => absurd c (by decide +kernel)) (fun _ => ?_)
      refine ⟨_, rfl, rfl, _, rfl, ?_⟩
      refine ite2 (fun c => absurd c (by decide +kernel)) (fun _ => ?_)
      refine in_testT (zs := [V.str (Str.ofString "up"), V.str (Str.ofString "list"), V.str (Str.ofString "block")]) rfl (fun _ _ q => q) (by show 3 ≤ sizeLine; decide) rfl (b := true) (by decide +kernel) fun H7 s7 => ?_
      refine iteT ?_
      have sA := ((((Same.refl H).trans s1).trans s2).trans s7)
      exact ⟨_, rfl, 1, rfl, p, _, -1, _, rfl, rfl, SqT.of (sA _ _ hp), rfl, kq _ q _ sA (sA _ _ hq) (AtL.on (same_tups sA) (fun _ _ h => AtN.on (same_tups sA) h) (atl_stl h4))⟩
  | s x =>
    cases x with
    | set z e =>
      obtain ⟨p, ve, rfl, hp, he⟩ := hat
      refine ⟨_, rfl, p, _, _, _, rfl, rfl, SqT.of hp, atI_0, ?_⟩
      refine in_testT (zs := [V.str (Str.ofString "do"), V.str (Str.ofString "say"), V.str (Str.ofString "return"), V.str (Str.ofString "raise")]) rfl (fun _ _ q => q) (by show 4 ≤ sizeLine; decide) rfl (b := false) (by decide +kernel) fun H1 s1 => ?_
      refine iteF ?_
      refine in_testT (zs := [V.str (Str.ofString "set"), V.str (Str.ofString "setfield")]) rfl (fun _ _ q => q) (by show 2 ≤ sizeLine; decide) rfl (b := true) (by decide +kernel) fun H2 s2 => ?_
      refine iteT ?_
      have sA := (((Same.refl H).trans s1).trans s2)
      refine ⟨_, rfl, 2, rfl, p, _, rfl, SqT.of (sA _ _ hp), fun c => absurd c.1 (show ¬ HT.sIx 3 0 (some 2) = 0 by decide), fun L hL => ?_⟩
      exact kq _ L _ (sA.trans (same_new hL _)) upd_same ⟨ve, [], rfl, AtE.on (same_tups (sA.trans (same_new hL _))) _ _ he, rfl⟩
    | sfl z e =>
      obtain ⟨p, ve, rfl, hp, he⟩ := hat
      refine ⟨_, rfl, p, _, _, _, rfl, rfl, SqT.of hp, atI_0, ?_⟩
      refine in_testT (zs := [V.str (Str.ofString "do"), V.str (Str.ofString "say"), V.str (Str.ofString "return"), V.str (Str.ofString "raise")]) rfl (fun _ _ q => q) (by show 4 ≤ sizeLine; decide) rfl (b := false) (by decide +kernel) fun H1 s1 => ?_
      refine iteF ?_
      refine in_testT (zs := [V.str (Str.ofString "set"), V.str (Str.ofString "setfield")]) rfl (fun _ _ q => q) (by show 2 ≤ sizeLine; decide) rfl (b := true) (by decide +kernel) fun H2 s2 => ?_
      refine iteT ?_
      have sA := (((Same.refl H).trans s1).trans s2)
      refine ⟨_, rfl, 2, rfl, p, _, rfl, SqT.of (sA _ _ hp), fun c => absurd c.1 (show ¬ HT.sIx 3 0 (some 2) = 0 by decide), fun L hL => ?_⟩
      exact kq _ L _ (sA.trans (same_new hL _)) upd_same ⟨ve, [], rfl, AtE.on (same_tups (sA.trans (same_new hL _))) _ _ he, rfl⟩
    | pl z e =>
      obtain ⟨p, ve, rfl, hp, he⟩ := hat
      have hpl : inV (.str (mk z)) [V.str (Str.ofString "do"), V.str (Str.ofString "say"), V.str (Str.ofString "return"), V.str (Str.ofString "raise")] = true := by
        have hz : isPl z = true := hok.1
        rcases pl_cases hz with h | h | h | h <;> (rw [h, mk_tl]; decide +kernel)
      refine ⟨_, rfl, p, _, _, _, rfl, rfl, SqT.of hp, atI_0, ?_⟩
      refine in_testT (zs := [V.str (Str.ofString "do"), V.str (Str.ofString "say"), V.str (Str.ofString "return"), V.str (Str.ofString "raise")]) rfl (fun _ _ q => q) (by show 4 ≤ sizeLine; decide) rfl (b := true) hpl fun H1 s1 => ?_
      refine iteT ?_
      have sA := ((Same.refl H).trans s1)
      refine ⟨_, rfl, 1, rfl, p, _, rfl, SqT.of (sA _ _ hp), fun c => absurd c.1 (show ¬ HT.sIx 2 0 (some 1) = 0 by decide), fun L hL => ?_⟩
      exact kq _ L _ (sA.trans (same_new hL _)) upd_same ⟨ve, [], rfl, AtE.on (same_tups (sA.trans (same_new hL _))) _ _ he, rfl⟩
    | iff e a b =>
      obtain ⟨p, ve, q, xs, r, ys, rfl, hp, hq, hr_, h5, h6, h7⟩ := hat
      refine ⟨_, rfl, p, _, _, _, rfl, rfl, SqT.of hp, atI_0, ?_⟩
      refine in_testT (zs := [V.str (Str.ofString "do"), V.str (Str.ofString "say"), V.str (Str.ofString "return"), V.str (Str.ofString "raise")]) rfl (fun _ _ q => q) (by show 4 ≤ sizeLine; decide) rfl (b := false) (by decide +kernel) fun H1 s1 => ?_
      refine iteF ?_
      refine in_testT (zs := [V.str (Str.ofString "set"), V.str (Str.ofString "setfield")]) rfl (fun _ _ q => q) (by show 2 ≤ sizeLine; decide) rfl (b := false) (by decide +kernel) fun H2 s2 => ?_
      refine iteF ?_
      refine ⟨_, rfl, rfl, _, rfl, ?_⟩
      refine ite2 (fun _ => ?_) (fun c => absurd (by decide +kernel) c)
      have sA := (((Same.refl H).trans s1).trans s2)
      have ha := atl_stl h6
      have hb := atl_stl h7
      have hal := ha.len
      have hbl := hb.len
      have la := stl_len a
      have lb := stl_len b
      have hn' : 1 + nE e + nSs a + nSs b ≤ 1100 := hn
      refine ⟨_, rfl, p, _, rfl, SqT.of (sA _ _ hp), rfl, _, _, rfl, _, _, rfl, _, _, rfl, _, _, rfl, rfl, ?_⟩
      refine ⟨_, rfl, _, rfl, q, xs, rfl, .inl (SqT.of (sA _ _ hq)), _, rfl, r, ys, rfl, .inl (SqT.of (sA _ _ hr_)), by rw [List.append_nil, List.length_cons, List.length_append, sizeLine_eq]; omega, fun L hL => ?_⟩
      rw [List.append_nil]
      have u := sA.trans (same_new hL (.tup (ve :: (xs ++ ys))))
      exact kq _ L _ u upd_same ⟨ve, xs ++ ys, rfl, AtE.on (same_tups u) _ _ h5, AtL.on (same_tups u) (fun _ _ h => AtN.on (same_tups u) h) (atl_app ha hb)⟩
    | whl e a =>
      obtain ⟨p, ve, q, xs, rfl, hp, hq, h5, h6⟩ := hat
      refine ⟨_, rfl, p, _, _, _, rfl, rfl, SqT.of hp, atI_0, ?_⟩
      refine in_testT (zs := [V.str (Str.ofString "do"), V.str (Str.ofString "say"), V.str (Str.ofString "return"), V.str (Str.ofString "raise")]) rfl (fun _ _ q => q) (by show 4 ≤ sizeLine; decide) rfl (b := false) (by decide +kernel) fun H1 s1 => ?_
      refine iteF ?_
      refine in_testT (zs := [V.str (Str.ofString "set"), V.str (Str.ofString "setfield")]) rfl (fun _ _ q => q) (by show 2 ≤ sizeLine; decide) rfl (b := false) (by decide +kernel) fun H2 s2 => ?_
      refine iteF ?_
      refine ⟨_, rfl, rfl, _, rfl, ?_⟩
      refine ite2 (fun c => absurd c (by decide +kernel)) (fun _ => ?_)
      refine ⟨_, rfl, rfl, _, rfl, ?_⟩
      refine ite2 (fun _ => ?_) (fun c => absurd (by decide +kernel) c)
      have sA := (((Same.refl H).trans s1).trans s2)
      have ha := atl_stl h6
      have hal := ha.len
      have la := stl_len a
      have hn' : 1 + nE e + nSs a ≤ 1100 := hn
      refine ⟨_, rfl, p, _, rfl, SqT.of (sA _ _ hp), rfl, _, _, rfl, _, _, rfl, _, _, rfl, rfl, ?_⟩
      refine ⟨_, rfl, _, rfl, q, xs, rfl, .inl (SqT.of (sA _ _ hq)), by rw [List.append_nil, List.length_cons, sizeLine_eq]; omega, fun L hL => ?_⟩
      rw [List.append_nil]
      have u := sA.trans (same_new hL (.tup (ve :: xs)))
      exact kq _ L _ u upd_same ⟨ve, xs, rfl, AtE.on (same_tups u) _ _ h5, AtL.on (same_tups u) (fun _ _ h => AtN.on (same_tups u) h) ha⟩
    | tri a z b =>
      obtain ⟨p, q, xs, r, ys, rfl, hp, hq, hr_, h6, h7⟩ := hat
      refine ⟨_, rfl, p, _, _, _, rfl, rfl, SqT.of hp, atI_0, ?_⟩
      refine in_testT (zs := [V.str (Str.ofString "do"), V.str (Str.ofString "say"), V.str (Str.ofString "return"), V.str (Str.ofString "raise")]) rfl (fun _ _ q => q) (by show 4 ≤ sizeLine; decide) rfl (b := false) (by decide +kernel) fun H1 s1 => ?_
      refine iteF ?_
      refine in_testT (zs := [V.str (Str.ofString "set"), V.str (Str.ofString "setfield")]) rfl (fun _ _ q => q) (by show 2 ≤ sizeLine; decide) rfl (b := false) (by decide +kernel) fun H2 s2 => ?_
      refine iteF ?_
      refine ⟨_, rfl, rfl, _, rfl, ?_⟩
      refine ite2 (fun c => absurd c (by decide +kernel)) (fun _ => ?_)
      refine ⟨_, rfl, rfl, _, rfl, ?_⟩
      refine ite2 (fun c => absurd c (by decide +kernel)) (fun _ => ?_)
      refine ⟨_, rfl, rfl, _, rfl, ?_⟩
      refine ite2 (fun _ => ?_) (fun c => absurd (by decide +kernel) c)
      have sA := (((Same.refl H).trans s1).trans s2)
      have ha := atl_stl h6
      have hb := atl_stl h7
      have hal := ha.len
      have hbl := hb.len
      have la := stl_len a
      have lb := stl_len b
      have hn' : 1 + nSs a + nSs b ≤ 1100 := hn
      refine ⟨_, rfl, p, _, rfl, SqT.of (sA _ _ hp), rfl, _, _, rfl, _, _, rfl, _, _, rfl, _, _, rfl, rfl, ?_⟩
      have hab := AtL.on (same_tups sA) (fun _ _ h => AtN.on (same_tups sA) h) (atl_app ha hb)
      refine ⟨_, rfl, _, rfl, q, r, xs, ys, rfl, rfl, SqT.of (sA _ _ hq), SqT.of (sA _ _ hr_), by rw [sizeLine_eq]; omega, fun h => ?_, fun h1 h2 => ?_, fun h1 h2 L hL => ?_⟩
      · subst h
        exact kq _ r _ sA (sA _ _ hr_) hab
      · subst h2
        rw [List.append_nil] at hab
        exact kq _ q _ sA (sA _ _ hq) hab
      · have u := same_new hL (.tup (xs ++ ys))
        exact kq _ L _ (sA.trans u) upd_same (AtL.on (same_tups u) (fun _ _ h => AtN.on (same_tups u) h) hab)
end
end My
set_option Elab.async false
set_option linter.all false
set_option maxRecDepth 100000
set_option maxHeartbeats 8000000
namespace My
open PySem L2 SS
abbrev sNc : Stmt := top 4
/-! ### what is still to come, as a stack -/
def pend : List (Nd × Int) → Nat → List (Nd × Int)
  | [], _ => []
  | q :: r, a => goneH 26 q.1 q.2 a ++ pend r (a + nN q.1)
def stN (st : List (Nd × Int)) : Nat := (st.map fun q => nN q.1).sum
theorem stN_app (x y : List (Nd × Int)) : stN (x ++ y) = stN x + stN y := by unfold stN; rw [List.map_append, List.sum_append]
theorem stN_map (qs : List Nd) (c : Int) : stN (qs.map fun q => (q, c)) = (qs.map nN).sum := by unfold stN; rw [List.map_map]; rfl
theorem nN_pos (n : Nd) : 1 ≤ nN n := by have := parts_n n; omega
theorem stN_len : ∀ st : List (Nd × Int), st.length ≤ stN st
  | [] => Nat.zero_le _
  | q :: r => by
    have := stN_len r
    have h := nN_pos q.1
    show r.length + 1 ≤ nN q.1 + stN r
    omega
theorem pend_app : ∀ (x y : List (Nd × Int)) (a : Nat), pend (x ++ y) a = pend x a ++ pend y (a + stN x)
  | [], y, a => rfl
  | q :: r, y, a => by
    show goneH 26 q.1 q.2 a ++ pend (r ++ y) (a + nN q.1) = (goneH 26 q.1 q.2 a ++ pend r (a + nN q.1)) ++ pend y (a + (nN q.1 + stN r))
    rw [pend_app r y, List.append_assoc, Nat.add_assoc]
theorem pend_len : ∀ (st : List (Nd × Int)) (a : Nat), (∀ q ∈ st, hN q.1 ≤ 26) → (pend st a).length = stN st
  | [], a, _ => rfl
  | q :: r, a, h => by
    show (goneH 26 q.1 q.2 a ++ pend r (a + nN q.1)).length = nN q.1 + stN r
    rw [List.length_append, gone_len 26 q.1 _ _ (h q List.mem_cons_self), pend_len r _ fun x hx => h x (List.mem_cons_of_mem _ hx)]
theorem goneL_pend {h : Nat} (h26 : h ≤ 26) (qs : List Nd) (c : Int) (a : Nat) (hq : ∀ q ∈ qs, hN q ≤ h) : goneL h qs c a = pend (qs.map fun q => (q, c)) a := by
  have gen : ∀ (qs : List Nd) (acc : List (Nd × Int)), (∀ q ∈ qs, hN q ≤ h) → qs.foldl (fun acc q => acc ++ goneH h q c (a + acc.length)) acc = acc ++ pend (qs.map fun q => (q, c)) (a + acc.length) := fun qs => by
    induction qs with
    | nil => intro acc _; exact (List.append_nil _).symm
    | cons q r ih =>
      intro acc hr
      have hq := hr q List.mem_cons_self
      have e : goneH h q c (a + acc.length) = goneH 26 q c (a + acc.length) := goneH_eq h 26 q c _ hq (by omega)
      rw [List.foldl_cons, ih _ fun x hx => hr x (List.mem_cons_of_mem _ hx), List.length_append, gone_len h q c _ hq, e, List.append_assoc, List.map_cons, ← Nat.add_assoc]
      rfl
  exact gen qs [] hq
theorem pend_step {n : Nd} (c : Int) (r : List (Nd × Int)) (a : Nat) (hn : hN n ≤ 26) : pend ((n, c) :: r) a = (n, c) :: pend ((parts n).map (fun q => (q, if isBlk n = true then ((a : Nat) : Int) else c)) ++ r) (a + 1) := by
  have e1 : goneH 26 n c a = (n, c) :: goneL 25 (parts n) (if isBlk n = true then ((a : Nat) : Int) else c) (a + 1) := goneH_succ 25 n c a
  have hp := parts_n n
  show goneH 26 n c a ++ pend r (a + nN n) = _
  rw [e1, goneL_pend (by decide) _ _ _ fun q hq => by have := (parts_h n q hq).1; omega, pend_app, stN_map, List.cons_append]
  have e2 : a + 1 + ((parts n).map nN).sum = a + nN n := by omega
  rw [e2]
/-- as the program needs it of a method -/
structure gdM (m : Me) : Prop where
  ps : m.ps.length ≤ 3
  ss : gdSs m.ss
  o : oSs m.ss ≤ 12
def gM (m : Me) : List (Nd × Int) := goneL 26 (stl m.ss) (-1) 0
theorem stl_ho : ∀ (ss : Sts) (q : Nd), q ∈ stl ss → hN q ≤ 2 * oSs ss + 2
  | .nil, q, h => by simp [stl] at h
  | .cons s r, q, h => by
    have e : oSs (.cons s r) = max (oS s) (oSs r) := rfl
    rcases List.mem_cons.mp h with rfl | h
    · show 2 * oS s + 2 ≤ _
      omega
    · have := stl_ho r q h
      omega
theorem gM_pend {m : Me} (h : gdM m) : gM m = pend ((stl m.ss).map fun q => (q, -1)) 0 := goneL_pend (Nat.le_refl _) _ _ _ fun q hq => by
  have := stl_ho m.ss q hq
  have := h.o
  omega
theorem st0_ok {m : Me} (h : gdM m) : ∀ q ∈ (stl m.ss).map (fun q => (q, (-1 : Int))), gdN q.1 ∧ hN q.1 ≤ 26 := fun q hq => by
  obtain ⟨x, hx, rfl⟩ := List.mem_map.mp hq
  have := stl_ho m.ss x hx
  have := h.o
  exact ⟨stl_gd m.ss h.ss x hx, by show hN x ≤ 26; omega⟩
theorem gM_len {m : Me} (h : gdM m) : (gM m).length = nSs m.ss := by
  rw [gM_pend h, pend_len _ _ fun q hq => (st0_ok h q hq).2, stN_map, stl_n]
theorem AtL.unsnoc {α : Type} {R : Hp → α → V → Prop} {H : Hp} : ∀ {xs : List α} {x : α} {vs : List V}, AtL R H (xs ++ [x]) vs → ∃ vs' u, vs = vs' ++ [u] ∧ AtL R H xs vs' ∧ R H x u
  | [], x, vs, ⟨u, us, h1, h2, h3⟩ => by
    have h3' : us = [] := h3
    subst h3'
    exact ⟨[], u, h1, rfl, h2⟩
  | y :: r, x, vs, ⟨u, us, h1, h2, h3⟩ => by
    obtain ⟨vs', z, e1, e2, e3⟩ := AtL.unsnoc (xs := r) h3
    exact ⟨u :: vs', z, by rw [h1, e1]; rfl, ⟨u, vs', rfl, h2, e2⟩, e3⟩
theorem AtL.rev {α : Type} {R : Hp → α → V → Prop} {H : Hp} : ∀ {xs : List α} {vs : List V}, AtL R H xs vs → AtL R H xs.reverse vs.reverse
  | [], vs, h => by
    have h' : vs = [] := h
    subst h'
    rfl
  | y :: r, vs, ⟨u, us, h1, h2, h3⟩ => by
    subst h1
    rw [List.reverse_cons, List.reverse_cons]
    exact (AtL.rev h3).snoc h2
theorem tif_val {t : TT} {ta tb : TE} {σ : L2.St} {H : Hp} {Q : VK} {x : V} (b : Bool) (ht : ∀ Q' : Bool → Hp → Prop, Q' b H → t σ H Q') (ha : b = true → ∀ Q' : VK, Q' x H → ta σ H Q') (hb : b = false → ∀ Q' : VK, Q' x H → tb σ H Q') (q : Q x H) : tIf t ta tb σ H Q := by
  refine ht _ ?_
  cases b with
  | true => rw [if_pos rfl]; exact ha rfl _ q
  | false => rw [if_neg (by decide)]; exact hb rfl _ q
theorem nx_if {t : TT} {ta tb : TE} {g : TG} {r : TS} {D D' : Ends} {σ : L2.St} {H : Hp} {x : V} (b : Bool) (ht : ∀ Q' : Bool → Hp → Prop, Q' b H → t σ H Q') (ha : b = true → ∀ Q' : VK, Q' x H → ta σ H Q') (hb : b = false → ∀ Q' : VK, Q' x H → tb σ H Q') (q : g x σ H (r D)) : ({ D' with nx := tSeq (tAsg (tIf t ta tb) g) r D } : Ends).nx σ H := tif_val b ht ha hb q
section
variable {P : Program} {w : World} {K : PySem.W.Frag} {mg : Str → Option Value} {base : Heap}
def spNc : Sp := fun vs H Q _ => ∃ (m : Me) (v : V), vs = [v] ∧ AtM H m v ∧ gdM m ∧ nSs m.ss ≤ 1100 ∧ ∀ H' a us, Same H H' → H' a = some (.lst us) → AtL AtR H' (gM m) us → Q (.ref a) H'
theorem scNc : FnScope ["method", "nodes", "_", "statements", "todo", "node", "code", "code_inside", "statement", "part"] ["method"] (defScope sNc) := ⟨rfl, rfl, rfl, by decide +kernel, rfl, by decide +kernel, by decide +kernel⟩
/-- at a turn of the while -/
def NcI (m : Me) (H0 : Hp) (v : V) (ln lt qs : Addr) (k : Nat) (σ : L2.St) (Hn : Hp) : Prop := ∃ (g st : List (Nd × Int)) (us vs : List V) (v2 v5 v6 v7 : Option V),
  σ = [some v, some (.ref ln), v2, some (.ref qs), some (.ref lt), v5, v6, v7, none, none] ∧ k = stN st ∧ Same H0 Hn ∧ Hn ln = some (.lst us) ∧ Hn lt = some (.lst vs) ∧
  AtL AtR Hn g us ∧ AtL AtR Hn st.reverse vs ∧ g ++ pend st g.length = gM m ∧ ∀ q ∈ st, gdN q.1 ∧ hN q.1 ≤ 26
theorem c_nc (TS : TxS K mg) (gMC : GI mg "METHOD_CODE" (-1)) (D : Dn K mg "nodes_with_codes" sNc) (PP : C0 P w K mg base 1 "parts_of" spPt) : C0 P w K mg base 2 "nodes_with_codes" spNc := by
  obtain ⟨f, fd, F, hmm⟩ := D.ex
  refine ⟨f, fd, ["method"], F.ok scNc (fun vs H Q E h => ?_) (fun cdv A outer s H vs Q E hr h => ?_), hmm, F.kp, F.binds (ps := ["method"]) fun _ _ _ _ _ _ us hl => match us, hl with | [_], _ => rfl⟩
  · obtain ⟨n, v, rfl, _⟩ := h
    rfl
  obtain ⟨m, v, rfl, hat, hok, hns, kq⟩ := h
  refine ⟨_, pss_cons (ps_set (i := 1) scNc.nd rfl (Or.inl rfl) (pe_lst pa_nil)) <|
    pss_cons (ps_asg (pv 0) (pg_tup (by rfl) (pgs_cons (pg_name (i := 2) scNc.nd rfl (Or.inl rfl)) (pgs_cons (pg_name (i := 2) scNc.nd rfl (Or.inl rfl)) (pgs_cons (pg_name (i := 2) scNc.nd rfl (Or.inl rfl)) (pgs_cons (pg_name (i := 3) scNc.nd rfl (Or.inl rfl)) pgs_nil)))))) <|
    pss_cons (ps_setLc (i := 4) (own := [("statement", 8)]) (g := gName 8) (by rfl) scNc.nd rfl rfl (sw_true rfl rfl rfl (by decide +kernel)) (pi_tup (pe_revT (pv 3)))
        (blkOk_by (own := [("statement", 8)]) (N := ["method", "nodes", "_", "statements", "todo", "node", "code", "code_inside", "statement", "part"]) (sc := defScope sNc) (by decide +kernel))
        (fun _ _ _ _ _ => pg_name (i := 8) scNc.nd rfl (Or.inl rfl)) (fun _ _ _ _ _ => pts_nil) (fun _ _ _ _ _ => pe_tup (pa_cons (pv 8) (pa_cons (pe_gi gMC) pa_nil)))) <|
    pss_cons (ps_while PassesOwn.never (pt_truth (pv 4) (fun _ => rfl))
      (pss_cons (ps_asg (pe_bm0 PySem.F.plainAttrs_list PySem.F.slot_list_pop PySem.F.type_list_pop mt_pop (pv 4)) (pg_tup (by rfl) (pgs_cons (pg_name (i := 5) scNc.nd rfl (Or.inl rfl)) (pgs_cons (pg_name (i := 6) scNc.nd rfl (Or.inl rfl)) pgs_nil)))) <|
        pss_cons (ps_set (i := 7) scNc.nd rfl (Or.inr rfl) (pe_ifExp (pt_cmpR op_eq (pe_ix ix_tup (pv 5) pe_int (fun _ _ => rfl)) pe_str (nomark _)) (pe_callB call_len_seq (by rfl) TS.len PySem.boot_len (pa_cons (pv 1) pa_nil)) (pv 6))) <|
        pss_cons (ps_expr (pe_bm PySem.F.plainAttrs_list PySem.F.slot_list_append PySem.F.type_list_append mt_append (pv 1) (pa_cons (pe_tup (pa_cons (pv 5) (pa_cons (pv 6) pa_nil))) pa_nil))) <|
        pss_one (ps_expr (pe_bm PySem.F.plainAttrs_list PySem.F.slot_list_extend PySem.F.type_list_extend mt_extend (pv 4) (pa_cons (pe_lc (own := [("part", 9)]) (g := gName 9) (tt := tYes) rfl scNc.nd (pi_tup (pe_revT (pe_cc PP hr (by decide) pass0 (pa_cons (pv 5) pa_nil))))
          (blkOk_by (own := [("part", 9)]) (N := ["method", "nodes", "_", "statements", "todo", "node", "code", "code_inside", "statement", "part"]) (sc := defScope sNc) (by decide +kernel))
          (fun _ _ _ _ _ => pg_name (i := 9) scNc.nd rfl (Or.inl rfl)) (fun _ _ _ _ _ => pts_nil) (fun _ _ _ _ _ => pe_tup (pa_cons (pv 9) (pa_cons (pv 7) pa_nil)))) pa_nil))))) <|
    pss_one (ps_ret (pv 1)), ?_⟩
  have hgl := gM_len hok
  refine ⟨Nat.zero_le _, fun ln hln => ?_⟩
  have s1 := same_new hln (.lst [])
  have f1 : upd H ln (.lst []) ln = some (.lst []) := upd_same
  have at1 : AtM (upd H ln (.lst [])) m v := hat.on (same_tups s1)
  generalize upd H ln (.lst []) = H1 at s1 f1 at1 ⊢
  obtain ⟨pm, vw, q, ys, rfl, hm1, hm2, hm3, hm4⟩ := at1
  refine ⟨_, rfl, pm, _, rfl, SqT.of hm1, rfl, _, _, rfl, _, _, rfl, _, _, rfl, _, _, rfl, rfl, ?_⟩
  refine ⟨_, rfl, q, ys, rfl, SqT.of hm3, fun rp hrp => ?_⟩
  have s2 := same_new hrp (.tup ys.reverse)
  have f2 : upd H1 rp (.tup ys.reverse) rp = some (.tup ys.reverse) := upd_same
  have at2 : AtL AtN (upd H1 rp (.tup ys.reverse)) (stl m.ss).reverse ys.reverse := (AtL.on (same_tups s2) (fun _ _ h => AtN.on (same_tups s2) h) (atl_stl hm4)).rev
  have f1b := s2 _ _ f1
  have s02 := s1.trans s2
  generalize upd H1 rp (.tup ys.reverse) = H2 at s2 f2 at2 f1b s02 ⊢
  refine ⟨rp, rfl, ⟨_, SqT.of f2⟩, fun lt hlt => ?_⟩
  have hlt0 : H lt = none := s02.free hlt
  have hne : ln ≠ lt := fun e => by rw [e, hlt] at f1b; cases f1b
  have hys : ys.length ≤ 1100 := by
    have h1 := (atl_stl hm4).len
    have h2 := stl_len m.ss
    omega
  refine lc_tup (K := K) (a := rp) (xs := ys.reverse) (fun i H7 => Same H2 H7 ∧ ∃ vs, H7 lt = some (.lst vs) ∧ AtL AtR H7 (((stl m.ss).reverse.take i).map fun q => (q, (-1 : Int))) vs) ⟨same_new hlt _, [], upd_same, rfl⟩ (fun i H7 _ h => SqT.of (h.1 _ _ f2)) ?_ ?_
  · rintro i u H7 hu ⟨s7, vs, f7, at7⟩
    obtain ⟨x, hx1, hx2⟩ := (AtL.on (same_tups s7) (fun _ _ h => AtN.on (same_tups s7) h) at2).get hu
    have hi : i < ys.reverse.length := (List.getElem?_eq_some_iff.mp hu).1
    rw [List.length_reverse] at hi
    refine ⟨rfl, ?_⟩
    unfold tYes
    refine iteT ?_
    refine ⟨_, rfl, by show 2 ≤ sizeLine; decide, fun tp htp => ?_⟩
    have s8 := same_new htp (.tup [u, .int (-1)])
    have tt := tups_lst (ys := vs ++ [.ref tp]) (s8 _ _ f7)
    refine ⟨vs, s8 _ _ f7, by rw [at7.len, List.length_map, List.length_take, sizeLine_eq]; omega, ?_, vs ++ [.ref tp], upd_same, ?_⟩
    · intro b z h
      rw [upd_ne (ne_of_none h hlt)]
      exact s8 _ _ (s7 _ _ h)
    · have et : ((stl m.ss).reverse.take (i + 1)).map (fun q => (q, (-1 : Int))) = ((stl m.ss).reverse.take i).map (fun q => (q, (-1 : Int))) ++ [(x, -1)] := by
        rw [List.take_add_one, hx1, List.map_append]
        rfl
      rw [et]
      refine (AtL.on tt (fun _ _ h => AtR.on tt h) (AtL.on (same_tups s8) (fun _ _ h => AtR.on (same_tups s8) h) at7)).snoc ⟨tp, u, rfl, tt _ _ upd_same, AtN.on tt (AtN.on (same_tups s8) hx2)⟩
  rintro H7 ⟨s7, vs, f7, at7⟩
  have hl7 : ys.reverse.length = (stl m.ss).reverse.length := by rw [List.length_reverse, List.length_reverse]; exact (atl_stl hm4).len
  rw [hl7, List.take_length, List.map_reverse] at at7
  have s07 := s02.trans s7
  refine ⟨fun k σ Hn => NcI m H (.ref pm) ln lt q k σ Hn, ⟨_, [], (stl m.ss).map (fun q => (q, -1)), [], vs, _, _, _, _, rfl, rfl, s07, s7 _ _ f1b, f7, rfl, at7, (gM_pend hok).symm, st0_ok hok⟩, ?_⟩
  clear hm1 hm2 hm3 hm4 f1 f2 at2 f1b s2 s02 hlt hrp s7 f7 at7 s07 hl7 s1
  rintro k σ Hn ⟨g, st, us, vs, v2, v5, v6, v7, rfl, rfl, s0, fn, ft, atg, att, hpend, hst⟩
  have hplen : g.length + stN st = nSs m.ss := by
    rw [← hgl, ← hpend, List.length_append, pend_len _ _ fun q hq => (hst q hq).2]
  have hgus := atg.len
  cases st with
  | nil =>
    have h' : vs = [] := att
    subst h'
    refine ⟨_, rfl, false, .inl ⟨[], SqL.of ft, rfl⟩, iteF ?_⟩
    have hg : g = gM m := by rw [← hpend]; exact (List.append_nil _).symm
    rw [hg] at atg
    exact ⟨_, rfl, kq Hn ln us s0 fn atg⟩
  | cons x r =>
    obtain ⟨n, c⟩ := x
    obtain ⟨hokn, hn26⟩ := hst (n, c) List.mem_cons_self
    rw [List.reverse_cons] at att
    obtain ⟨vs', u, rfl, att', atu⟩ := AtL.unsnoc att
    obtain ⟨p, vn, rfl, hp, hvn⟩ := atu
    have hpn := parts_n n
    have hsn : stN ((n, c) :: r) = nN n + stN r := rfl
    rw [hsn] at hplen ⊢
    have hrl := stN_len r
    have hvl := att'.len
    rw [List.length_reverse] at hvl
    refine ⟨_, rfl, true, .inl ⟨vs' ++ [.ref p], SqL.of ft, by simp⟩, iteT ?_⟩
    refine ⟨fun σ' H' => ∃ k', k' < nN n + stN r ∧ NcI m H (.ref pm) ln lt q k' σ' H', fun σ' H' h => h, ?_⟩
    have ta := tups_lst (ys := vs') ft
    refine ⟨_, rfl, .inl ⟨rfl, _, SqL.of ft⟩, lt, vs' ++ [.ref p], .ref p, rfl, rfl, ft, by simp, ?_⟩
    rw [List.dropLast_concat]
    have sa : Same H (upd Hn lt (.lst vs')) := fun b z hb => by rw [upd_ne (ne_of_none hb hlt0)]; exact s0 _ _ hb
    have fa : upd Hn lt (.lst vs') ln = some (.lst us) := by rw [upd_ne hne]; exact fn
    have fb : upd Hn lt (.lst vs') lt = some (.lst vs') := upd_same
    have hpa := ta _ _ hp
    have hvna := AtN.on ta hvn
    have atga := AtL.on ta (fun _ _ h => AtR.on ta h) atg
    have atta := AtL.on ta (fun _ _ h => AtR.on ta h) att'
    generalize upd Hn lt (.lst vs') = Ha at sa fa fb hpa hvna atga atta ⊢
    refine ⟨p, _, rfl, SqT.of hpa, rfl, _, _, rfl, _, _, rfl, rfl, ?_⟩
    obtain ⟨pz, z, rest, rfl, hpz, hz⟩ := blk_word hvna hokn
    refine nx_if (x := .int (if isBlk n = true then ((g.length : Nat) : Int) else c)) (isBlk n) (fun Q' q' => ⟨_, rfl, pz, _, _, _, rfl, rfl, SqT.of hpz, atI_0, rfl, _, rfl, by rw [hz]; exact q'⟩) (fun hb Q' q' => ⟨_, rfl, ln, us, rfl, .inl (SqL.of fa), by rw [if_pos hb] at q'; rw [hgus]; exact q'⟩) (fun hb Q' q' => ⟨_, rfl, by rw [if_neg (by rw [hb]; decide)] at q'; exact q'⟩) ?_
    generalize hci : (if isBlk n = true then ((g.length : Nat) : Int) else c) = ci
    refine ⟨_, rfl, .inl ⟨rfl, _, SqL.of fa⟩, _, rfl, _, rfl, by show 2 ≤ sizeLine; decide, fun tp htp => ?_⟩
    have s3 := same_new htp (.tup [.ref pz, .int c])
    have f3 := s3 _ _ fa
    have tt := tups_lst (ys := us ++ [.ref tp]) f3
    refine ⟨ln, us, _, rfl, rfl, f3, by rw [hgus, sizeLine_eq]; omega, ?_⟩
    have sb : Same H (upd (upd Ha tp (.tup [.ref pz, .int c])) ln (.lst (us ++ [.ref tp]))) := fun b z hb => by rw [upd_ne (ne_of_none hb hln)]; exact s3 _ _ (sa _ _ hb)
    have fnb : upd (upd Ha tp (.tup [.ref pz, .int c])) ln (.lst (us ++ [.ref tp])) ln = some (.lst (us ++ [.ref tp])) := upd_same
    have ftb : upd (upd Ha tp (.tup [.ref pz, .int c])) ln (.lst (us ++ [.ref tp])) lt = some (.lst vs') := by rw [upd_ne hne.symm]; exact s3 _ _ fb
    have t3 := (same_tups s3).trans tt
    have atgb : AtL AtR (upd (upd Ha tp (.tup [.ref pz, .int c])) ln (.lst (us ++ [.ref tp]))) (g ++ [(n, c)]) (us ++ [.ref tp]) := (AtL.on t3 (fun _ _ h => AtR.on t3 h) atga).snoc ⟨tp, .ref pz, rfl, tt _ _ upd_same, AtN.on t3 hvna⟩
    have attb := AtL.on t3 (fun _ _ h => AtR.on t3 h) atta
    have hvnb := AtN.on t3 hvna
    generalize upd (upd Ha tp (.tup [.ref pz, .int c])) ln (.lst (us ++ [.ref tp])) = Hb at sb fnb ftb atgb attb hvnb ⊢
    refine ⟨_, rfl, .inl ⟨rfl, _, SqL.of ftb⟩, ?_⟩
    refine ⟨_, rfl, n, _, rfl, hvnb, hokn, by omega, fun Hc a zs sc fc atc => ?_⟩
    refine ⟨a, zs, rfl, SqT.of fc, fun rp2 hrp2 => ?_⟩
    have s4 := sc.trans (same_new hrp2 (.tup zs.reverse))
    have f4 : upd Hc rp2 (.tup zs.reverse) rp2 = some (.tup zs.reverse) := upd_same
    have at4 : AtL AtN (upd Hc rp2 (.tup zs.reverse)) (parts n).reverse zs.reverse := (AtL.on (same_tups (same_new hrp2 _)) (fun _ _ h => AtN.on (same_tups (same_new hrp2 _)) h) atc).rev
    generalize upd Hc rp2 (.tup zs.reverse) = Hd at s4 f4 at4 ⊢
    refine ⟨rp2, rfl, ⟨_, SqT.of f4⟩, fun D0 hD0 => ?_⟩
    have hzl : zs.length = (parts n).length := atc.len
    have hpl : (parts n).length ≤ ((parts n).map nN).sum := by
      have := stN_len ((parts n).map fun q => (q, c))
      rw [stN_map, List.length_map] at this
      exact this
    refine lc_tup (K := K) (a := rp2) (xs := zs.reverse) (fun i H7 => Same Hd H7 ∧ ∃ ws, H7 D0 = some (.lst ws) ∧ AtL AtR H7 (((parts n).reverse.take i).map fun q => (q, ci)) ws) ⟨same_new hD0 _, [], upd_same, rfl⟩ (fun i H7 _ h => SqT.of (h.1 _ _ f4)) ?_ ?_
    · rintro i u H7 hu ⟨s7, ws, f7, at7⟩
      obtain ⟨x, hx1, hx2⟩ := (AtL.on (same_tups s7) (fun _ _ h => AtN.on (same_tups s7) h) at4).get hu
      have hi : i < zs.reverse.length := (List.getElem?_eq_some_iff.mp hu).1
      rw [List.length_reverse] at hi
      refine ⟨rfl, ?_⟩
      unfold tYes
      refine iteT ?_
      refine ⟨_, rfl, _, rfl, by show 2 ≤ sizeLine; decide, fun tp2 htp2 => ?_⟩
      have s8 := same_new htp2 (.tup [u, .int ci])
      have tt2 := tups_lst (ys := ws ++ [.ref tp2]) (s8 _ _ f7)
      refine ⟨ws, s8 _ _ f7, by rw [at7.len, List.length_map, List.length_take, sizeLine_eq]; omega, ?_, ws ++ [.ref tp2], upd_same, ?_⟩
      · intro b z h
        rw [upd_ne (ne_of_none h hD0)]
        exact s8 _ _ (s7 _ _ h)
      · have et : ((parts n).reverse.take (i + 1)).map (fun q => (q, ci)) = ((parts n).reverse.take i).map (fun q => (q, ci)) ++ [(x, ci)] := by
          rw [List.take_add_one, hx1, List.map_append]
          rfl
        rw [et]
        refine (AtL.on tt2 (fun _ _ h => AtR.on tt2 h) (AtL.on (same_tups s8) (fun _ _ h => AtR.on (same_tups s8) h) at7)).snoc ⟨tp2, u, rfl, tt2 _ _ upd_same, AtN.on tt2 (AtN.on (same_tups s8) hx2)⟩
    rintro H7 ⟨s7, ws, f7, at7⟩
    have hl7 : zs.reverse.length = (parts n).reverse.length := by rw [List.length_reverse, List.length_reverse]; exact hzl
    rw [hl7, List.take_length, List.map_reverse] at at7
    have hwl := at7.len
    rw [List.length_reverse, List.length_map] at hwl
    have s5 := s4.trans s7
    have f5 := s5 _ _ ftb
    have t5 := (same_tups s5).trans (tups_lst (ys := vs' ++ ws) f5)
    refine ⟨lt, D0, vs', ws, rfl, rfl, f5, f7, by rw [hvl, hwl, sizeLine_eq]; omega, ?_⟩
    refine ⟨stN (((parts n).map fun q => (q, ci)) ++ r), ?_, g ++ [(n, c)], ((parts n).map fun q => (q, ci)) ++ r, us ++ [.ref tp], vs' ++ ws, _, _, _, _, rfl, rfl, fun b z hb => ?_, ?_, upd_same, AtL.on t5 (fun _ _ h => AtR.on t5 h) atgb, ?_, ?_, fun x hx => ?_⟩
    · rw [stN_app, stN_map]
      omega
    · rw [upd_ne (ne_of_none hb hlt0)]
      exact s5 _ _ (sb _ _ hb)
    · rw [upd_ne hne]
      exact s5 _ _ fnb
    · rw [List.reverse_append]
      have t6 := tups_lst (ys := vs' ++ ws) f5
      exact atl_app (AtL.on t5 (fun _ _ h => AtR.on t5 h) attb) (AtL.on t6 (fun _ _ h => AtR.on t6 h) at7)
    · rw [← hpend, pend_step c r g.length hn26, hci, List.length_append, List.append_assoc]
      rfl
    · rcases List.mem_append.mp hx with hx | hx
      · obtain ⟨y, hy, rfl⟩ := List.mem_map.mp hx
        obtain ⟨h1, h2⟩ := parts_h n y hy
        exact ⟨parts_gd n hokn y hy, by have h3 : hN n ≤ 26 := hn26; show hN y ≤ 26; omega⟩
      · exact hst x (List.mem_cons_of_mem _ hx)
end
end My
set_option Elab.async false
set_option linter.all false
set_option maxRecDepth 100000
set_option maxHeartbeats 8000000
namespace My
open PySem L2 SS
/-! ### the parameters of the blocks around, by codes -/
inductive Hid (g : List (Nd × Int)) : Int → List T → Prop
  | top : Hid g (-1) []
  | blk {i : Nat} {n : Nd} {c : Int} {hid : List T} : g[i]? = some (n, c) → isBlk n = true → c < ((i : Nat) : Int) → Hid g c hid → Hid g ((i : Nat) : Int) (blkP n ++ hid)
/-- words that stand for the same -/
def SameW (a b : List T) : Prop := ∀ w, w ∈ a ↔ w ∈ b
theorem SameW.add {a b : List T} (h : SameW a b) (n : Nd) (f : List T) : addN n a f = addN n b f := by
  unfold addN
  cases nameN n with
  | none => rfl
  | some w =>
    show (if w ∈ a ∨ w ∈ f then f else f ++ [w]) = if w ∈ b ∨ w ∈ f then f else f ++ [w]
    have e : (w ∈ a ∨ w ∈ f) ↔ (w ∈ b ∨ w ∈ f) := by rw [h w]
    by_cases hw : w ∈ a ∨ w ∈ f
    · rw [if_pos hw, if_pos (e.mp hw)]
    · rw [if_neg hw, if_neg fun z => hw (e.mpr z)]
theorem SameW.blk {a b : List T} (h : SameW a b) (p : List T) : SameW (p ++ a) (b ++ p) := fun w => by
  rw [List.mem_append, List.mem_append, h w]
  exact Or.comm
/-- what the nodes of g, from the left, add: each by its code's words -/
inductive Names (g : List (Nd × Int)) : List (Nd × Int) → List T → List T → Prop
  | nil {f : List T} : Names g [] f f
  | cons {n : Nd} {c : Int} {r : List (Nd × Int)} {hid f f' : List T} : Hid g c hid → Names g r (addN n hid f) f' → Names g ((n, c) :: r) f f'
theorem Names.app {g x y : List (Nd × Int)} {f f1 f2 : List T} (h : Names g x f f1) (h2 : Names g y f1 f2) : Names g (x ++ y) f f2 := by
  induction h with
  | nil => exact h2
  | cons a b ih => exact .cons a (ih h2)
theorem Names.cut {g : List (Nd × Int)} : ∀ {x y : List (Nd × Int)} {f f2 : List T}, Names g (x ++ y) f f2 → ∃ f1, Names g x f f1 ∧ Names g y f1 f2
  | [], y, f, f2, h => ⟨f, .nil, h⟩
  | q :: r, y, f, f2, h => by
    cases h with
    | cons a b =>
      obtain ⟨f1, h1, h2⟩ := Names.cut (x := r) b
      exact ⟨f1, .cons a h1, h2⟩
/-- the segment at a place -/
def Seg (g : List (Nd × Int)) (a : Nat) (x : List (Nd × Int)) : Prop := ∃ p q, g = p ++ (x ++ q) ∧ p.length = a
theorem Seg.left {g x y : List (Nd × Int)} {a : Nat} (h : Seg g a (x ++ y)) : Seg g a x := by
  obtain ⟨p, q, h1, h2⟩ := h
  exact ⟨p, y ++ q, by rw [h1, List.append_assoc], h2⟩
theorem Seg.right {g x y : List (Nd × Int)} {a : Nat} (h : Seg g a (x ++ y)) : Seg g (a + x.length) y := by
  obtain ⟨p, q, h1, h2⟩ := h
  exact ⟨p ++ x, q, by rw [h1]; simp, by rw [List.length_append, h2]⟩
theorem Seg.head {g r : List (Nd × Int)} {a : Nat} {q : Nd × Int} (h : Seg g a (q :: r)) : g[a]? = some q := by
  obtain ⟨p, z, h1, h2⟩ := h
  rw [h1, ← h2]
  simp
/-- nodes in a row within a code -/
theorem names_pend {g : List (Nd × Int)} {h : Nat} (one : ∀ (n : Nd) (c : Int) (a : Nat) (hid hid' f : List T), hN n ≤ h → Seg g a (goneH 26 n c a) → Hid g c hid → SameW hid hid' → c < ((a : Nat) : Int) → Names g (goneH 26 n c a) f (wiH h (parts n) (hid' ++ blkP n) (addN n hid' f))) :
    ∀ (qs : List Nd) (c : Int) (a : Nat) (hid hid' f : List T), h ≤ 26 → (∀ q ∈ qs, hN q ≤ h) → Seg g a (pend (qs.map fun q => (q, c)) a) → Hid g c hid → SameW hid hid' → c < ((a : Nat) : Int) → Names g (pend (qs.map fun q => (q, c)) a) f (wiL h qs hid' f)
  | [], c, a, hid, hid', f, _, _, _, _, _, _ => .nil
  | q :: r, c, a, hid, hid', f, h26, hq, sg, hd, sw, hc => by
    have hq1 := hq q List.mem_cons_self
    have sg' : Seg g a (goneH 26 q c a ++ pend (r.map fun q => (q, c)) (a + nN q)) := sg
    have l := gone_len 26 q c a (by omega)
    have sr := sg'.right
    rw [l] at sr
    exact Names.app (one q c a hid hid' f hq1 sg'.left hd sw hc) (names_pend one r c (a + nN q) hid hid' _ h26 (fun x hx => hq x (List.mem_cons_of_mem _ hx)) sr hd sw (by omega))
theorem names_one {g : List (Nd × Int)} : ∀ (h : Nat) (n : Nd) (c : Int) (a : Nat) (hid hid' f : List T), h ≤ 26 → hN n ≤ h → Seg g a (goneH 26 n c a) → Hid g c hid → SameW hid hid' → c < ((a : Nat) : Int) → Names g (goneH 26 n c a) f (wiH h (parts n) (hid' ++ blkP n) (addN n hid' f))
  | 0, n, c, a, hid, hid', f, _, hn, _, _, _, _ => by have := hN_pos n; omega
  | h + 1, n, c, a, hid, hid', f, h26, hn, sg, hd, sw, hc => by
    have e1 : goneH 26 n c a = (n, c) :: pend ((parts n).map fun q => (q, if isBlk n = true then ((a : Nat) : Int) else c)) (a + 1) := by
      have e := pend_step c [] a (n := n) (by omega)
      rw [List.append_nil] at e
      have e0 : pend [(n, c)] a = goneH 26 n c a := List.append_nil _
      rw [← e0]
      exact e
    rw [e1] at sg ⊢
    have hg := sg.head
    have sr : Seg g (a + 1) (pend ((parts n).map fun q => (q, if isBlk n = true then ((a : Nat) : Int) else c)) (a + 1)) := Seg.right (x := [(n, c)]) sg
    have ea : addN n hid' f = addN n hid f := (sw.add n f).symm
    rw [ea]
    refine .cons hd ?_
    rw [wiH_succ]
    have hp : ∀ q ∈ parts n, hN q ≤ h := fun q hq => by have := (parts_h n q hq).1; omega
    have one := fun (n : Nd) (c : Int) (a : Nat) (hid hid' f : List T) (hn : hN n ≤ h) sg hd sw hc => names_one (g := g) h n c a hid hid' f (by omega) hn sg hd sw hc
    cases hb : isBlk n with
    | true =>
      rw [hb] at sr
      rw [if_pos rfl] at sr ⊢
      exact names_pend one (parts n) _ (a + 1) (blkP n ++ hid) _ _ (by omega) hp sr (.blk hg hb hc hd) (sw.blk _) (by omega)
    | false =>
      rw [hb] at sr
      rw [if_neg (by decide)] at sr ⊢
      have e2 : blkP n = [] := by
        cases n with
        | e x => cases x with
          | blk ps ss => cases hb
          | _ => rfl
        | s x => rfl
      rw [e2, List.append_nil]
      exact names_pend one (parts n) c (a + 1) hid hid' _ (by omega) hp sr hd sw (by omega)
theorem wiH_le : ∀ (h : Nat) (qs : List Nd) (hid f : List T), (∀ q ∈ qs, hN q ≤ h) → wiH (h + 1) qs hid f = wiH h qs hid f
  | 0, qs, hid, f, hq => by
    cases qs with
    | nil => rfl
    | cons q r => have := hq q List.mem_cons_self; have := hN_pos q; omega
  | h + 1, qs, hid, f, hq => by
    rw [wiH_succ, wiH_succ]
    unfold wiL
    induction qs generalizing f with
    | nil => rfl
    | cons q r ih =>
      have hq1 := hq q List.mem_cons_self
      have e : wiS (h + 1) hid f q = wiS h hid f q := wiH_le h (parts q) _ _ fun x hx => by have := (parts_h q x hx).1; omega
      rw [List.foldl_cons, List.foldl_cons, e]
      exact ih _ fun x hx => hq x (List.mem_cons_of_mem _ hx)
theorem names_all {m : Me} (h : gdM m) : Names (gM m) (gM m) m.ps (namesM m) := by
  have hq : ∀ q ∈ stl m.ss, hN q ≤ 26 := fun q hq => by
    have := stl_ho m.ss q hq
    have := h.o
    omega
  have e : namesM m = wiL 26 (stl m.ss) [] m.ps := by
    unfold namesM
    rw [← wiH_le 26 _ _ _ hq]
    exact wiH_succ 26 _ _ _
  rw [e]
  have := names_pend (g := gM m) (h := 26) (fun n c a hid hid' f hn sg hd sw hc => names_one 26 n c a hid hid' f (Nat.le_refl _) hn sg hd sw hc) (stl m.ss) (-1) 0 [] [] m.ps (Nat.le_refl _) hq
    ⟨[], [], by rw [← gM_pend h, List.append_nil]; rfl, rfl⟩ .top (fun _ => Iff.rfl) (by decide)
  rw [← gM_pend h] at this
  exact this
theorem goneH_gd : ∀ (h : Nat) (n : Nd) (c : Int) (a : Nat), gdN n → ∀ q ∈ goneH h n c a, gdN q.1
  | 0, n, c, a, _, q, hq => by cases hq
  | h + 1, n, c, a, ok, q, hq => by
    rw [goneH_succ] at hq
    rcases List.mem_cons.mp hq with rfl | hq
    · exact ok
    · have gen : ∀ (qs : List Nd) (acc : List (Nd × Int)) (c : Int) (a : Nat), (∀ x ∈ qs, x ∈ parts n) → (∀ x ∈ acc, gdN x.1) → ∀ x ∈ qs.foldl (fun acc q => acc ++ goneH h q c (a + acc.length)) acc, gdN x.1 := fun qs => by
        induction qs with
        | nil => intro acc c a _ hacc x hx; exact hacc x hx
        | cons p r ih =>
          intro acc c a hp hacc x hx
          rw [List.foldl_cons] at hx
          refine ih _ c a (fun y hy => hp y (List.mem_cons_of_mem _ hy)) (fun y hy => ?_) x hx
          rcases List.mem_append.mp hy with hy | hy
          · exact hacc y hy
          · exact goneH_gd h p c _ (parts_gd n ok p (hp p List.mem_cons_self)) y hy
      exact gen (parts n) [] _ _ (fun x hx => hx) (fun x hx => by cases hx) q hq
theorem pend_gd : ∀ (st : List (Nd × Int)) (a : Nat), (∀ q ∈ st, gdN q.1) → ∀ q ∈ pend st a, gdN q.1
  | [], _, _, q, hq => by cases hq
  | x :: r, a, h, q, hq => by
    have hq' : q ∈ goneH 26 x.1 x.2 a ++ pend r (a + nN x.1) := hq
    rcases List.mem_append.mp hq' with hq | hq
    · exact goneH_gd 26 x.1 x.2 a (h x List.mem_cons_self) q hq
    · exact pend_gd r _ (fun y hy => h y (List.mem_cons_of_mem _ hy)) q hq
theorem gM_gd {m : Me} (h : gdM m) : ∀ q ∈ gM m, gdN q.1 := fun q hq => by
  rw [gM_pend h] at hq
  exact pend_gd _ _ (fun x hx => (st0_ok h x hx).1) q hq
end My
set_option Elab.async false
set_option linter.all false
set_option maxRecDepth 100000
set_option maxHeartbeats 8000000
namespace My
open PySem L2 SS
abbrev sNo : Stmt := top 2
abbrev sNa : Stmt := top 3
abbrev sSw : Stmt := top 6
abbrev sIp : Stmt := top 7
section
variable {P : Program} {w : World} {K : PySem.W.Frag} {mg : Str → Option Value} {base : Heap}
def spSw : Sp := fun vs H Q _ => ∃ (n : Nd) (v : V), vs = [v] ∧ AtN H n v ∧ gdN n ∧ Q (nameV n) H
theorem scSw : FnScope ["node"] ["node"] (defScope sSw) := ⟨rfl, rfl, rfl, by decide +kernel, rfl, by decide +kernel, by decide +kernel⟩
theorem c_sw (D : Dn K mg "set_word" sSw) : C0 P w K mg base 1 "set_word" spSw := by
  obtain ⟨f, fd, F, m⟩ := D.ex
  refine ⟨f, fd, ["node"], F.ok scSw (fun vs H Q E h => ?_) (fun cdv A outer s H vs Q E hr h => ?_), m, F.kp, F.binds (ps := ["node"]) fun _ _ _ _ _ _ us hl => match us, hl with | [_], _ => rfl⟩
  · obtain ⟨n, v, rfl, _⟩ := h
    rfl
  obtain ⟨n, v, rfl, hat, hok, kq⟩ := h
  refine ⟨_, pss_cons (ps_if (pt_cmpR op_eq (pe_ix (r := rIxT K) ix_tup (pv 0) pe_int (fun _ _ => rfl)) pe_str (nomark _)) (pss_one (ps_ret (pe_ix (r := rIxT K) ix_tup (pv 0) pe_int (fun _ _ => rfl)))) pss_nil) <|
    pss_cons (ps_if (pt_cmpR op_eq (pe_ix (r := rIxT K) ix_tup (pv 0) pe_int (fun _ _ => rfl)) pe_str (nomark _)) (pss_one (ps_ret (pe_ix (r := rIxT K) ix_tup (pv 0) pe_int (fun _ _ => rfl)))) pss_nil) <|
    pss_one (ps_ret pe_non), ?_⟩
  obtain ⟨pw, rest, rfl, hpw, hc⟩ := name_word hat hok
  refine ⟨_, rfl, pw, _, _, _, rfl, rfl, SqT.of hpw, atI_0, rfl, _, rfl, ?_⟩
  rcases hc with ⟨c1, c2⟩ | ⟨c1, c2, c3⟩ | ⟨c1, c2, c3⟩
  · refine ite2 (fun _ => ?_) (fun c => absurd c1 c)
    exact ⟨_, rfl, pw, _, _, _, rfl, rfl, SqT.of hpw, atI_nat (j := 1) (by simpa using c2), kq⟩
  · refine ite2 (fun c => absurd (c1.symm.trans c) Bool.false_ne_true) (fun _ => ?_)
    refine ⟨_, rfl, pw, _, _, _, rfl, rfl, SqT.of hpw, atI_0, rfl, _, rfl, ?_⟩
    refine ite2 (fun _ => ?_) (fun c => absurd c2 c)
    exact ⟨_, rfl, pw, _, _, _, rfl, rfl, SqT.of hpw, atI_nat (j := 2) (by simpa using c3), kq⟩
  · refine ite2 (fun c => absurd (c1.symm.trans c) Bool.false_ne_true) (fun _ => ?_)
    refine ⟨_, rfl, pw, _, _, _, rfl, rfl, SqT.of hpw, atI_0, rfl, _, rfl, ?_⟩
    refine ite2 (fun c => absurd (c2.symm.trans c) Bool.false_ne_true) (fun _ => ?_)
    rw [c3] at kq
    exact kq
def spIp : Sp := fun vs H Q _ => ∃ (ln : Addr) (us : List V) (g : List (Nd × Int)) (c : Int) (hid : List T) (z : T), vs = [.ref ln, .int c, .str (mk z)] ∧ H ln = some (.lst us) ∧ AtL AtR H g us ∧ Hid g c hid ∧ Q (.bl (decide (z ∈ hid))) H
theorem scIp : FnScope ["nodes", "code", "word", "_", "parameters", "around"] ["nodes", "code", "word"] (defScope sIp) := ⟨rfl, rfl, rfl, by decide +kernel, rfl, by decide +kernel, by decide +kernel⟩
theorem c_ip (gMC : GI mg "METHOD_CODE" (-1)) (D : Dn K mg "is_parameter" sIp) : C0 P w K mg base 1 "is_parameter" spIp := by
  obtain ⟨f, fd, F, m⟩ := D.ex
  refine ⟨f, fd, ["nodes", "code", "word"], F.ok scIp (fun vs H Q E h => ?_) (fun cdv A outer s H vs Q E hr h => ?_), m, F.kp, F.binds (ps := ["nodes", "code", "word"]) fun _ _ _ _ _ _ us hl => match us, hl with | [_, _, _], _ => rfl⟩
  · obtain ⟨ln, us, g, c, hid, z, rfl, _⟩ := h
    rfl
  obtain ⟨ln, us, g, c, hid, z, rfl, hln, hat, hhid, kq⟩ := h
  refine ⟨_, pss_cons (ps_while PassesOwn.never (pt_cmpR op_ne (pv 1) (pe_gi gMC) (nomark _))
      (pss_cons (ps_asg (pe_ix (r := rIxL K) ix_list (pv 0) (pv 1) (fun _ _ => rfl)) (pg_tup (by rfl) (pgs_cons (pg_tup (by rfl) (pgs_cons (pg_name (i := 3) scIp.nd rfl (Or.inl rfl)) (pgs_cons (pg_name (i := 4) scIp.nd rfl (Or.inl rfl)) (pgs_cons (pg_name (i := 3) scIp.nd rfl (Or.inl rfl)) pgs_nil)))) (pgs_cons (pg_name (i := 5) scIp.nd rfl (Or.inl rfl)) pgs_nil)))) <|
        pss_cons (ps_if (pt_cmpR op_in_seq (pv 2) (pv 4) (by rfl)) (pss_one (ps_ret pe_bl)) pss_nil) <|
        pss_one (ps_set (i := 1) scIp.nd rfl (Or.inl rfl) (pv 5)))) <|
    pss_one (ps_ret pe_bl), ?_⟩
  refine ⟨fun k σ Hn => ∃ (c' : Int) (hid' : List T) (v3 v4 v5 : Option V), σ = [some (.ref ln), some (.int c'), some (.str (mk z)), v3, v4, v5] ∧ Hn = H ∧ k = (c' + 1).toNat ∧ Hid g c' hid' ∧ (z ∈ hid' ↔ z ∈ hid), ⟨_, c, hid, none, none, none, rfl, rfl, rfl, hhid, Iff.rfl⟩, ?_⟩
  rintro k σ Hn ⟨c', hid', v3, v4, v5, rfl, rfl, rfl, hh, hiff⟩
  refine ⟨_, rfl, rfl, _, rfl, ?_⟩
  cases hh with
  | top =>
    refine ite2 (fun c => absurd c (by decide)) (fun _ => ?_)
    have e : decide (z ∈ hid) = false := decide_eq_false fun q => by have := hiff.mpr q; cases this
    rw [e] at kq
    exact kq
  | @blk i n c2 hid2 hg hb hc2 h2 =>
    refine ite2 (fun _ => ?_) (fun cc => absurd (by simp) cc)
    obtain ⟨u, hu, hat2⟩ := hat.get' hg
    obtain ⟨p, vn, rfl, hp, hvn⟩ := hat2
    cases n with
    | s x => cases hb
    | e x =>
      cases x with
      | blk ps ss =>
        obtain ⟨pb, vw, q, xs, rfl, hpb, hq, hw, h4⟩ := hvn
        obtain ⟨pw, rfl, hpw⟩ := hw
        refine ⟨fun σ' H' => ∃ (c' : Int) (hid' : List T) (v3 v4 v5 : Option V), σ' = [some (.ref ln), some (.int c'), some (.str (mk z)), v3, v4, v5] ∧ H' = Hn ∧ c' < ((i : Nat) : Int) ∧ Hid g c' hid' ∧ (z ∈ hid' ↔ z ∈ hid), fun σ' H' h => ?_, ?_⟩
        · obtain ⟨c', hid', v3, v4, v5, h1, h2, h3, h4, h5⟩ := h
          exact ⟨(c' + 1).toNat, by omega, c', hid', v3, v4, v5, h1, h2, rfl, h4, h5⟩
        refine ⟨_, rfl, _, rfl, ln, us, _, _, rfl, rfl, SqL.of hln, atI_nat hu, p, _, rfl, SqT.of hp, rfl, _, _, rfl, ?_⟩
        refine ⟨pb, _, rfl, SqT.of hpb, rfl, _, _, rfl, _, _, rfl, _, _, rfl, rfl, _, _, rfl, rfl, ?_⟩
        refine ⟨_, rfl, _, rfl, pw, _, rfl, .inr (SqT.of hpw), rfl, flat_ws _, _, rfl, ?_⟩
        show if (inV (.str (mk z)) (wsV ps)) = true then _ else _
        rw [in_ws]
        by_cases c1 : z ∈ ps
        · rw [decide_eq_true c1]
          refine iteT ?_
          have e : decide (z ∈ hid) = true := decide_eq_true (hiff.mp (List.mem_append.mpr (.inl c1)))
          rw [e] at kq
          exact kq
        · rw [decide_eq_false c1]
          refine iteF ?_
          refine ⟨_, rfl, c2, hid2, _, _, _, rfl, rfl, hc2, h2, ?_⟩
          rw [← hiff]
          show _ ↔ z ∈ ps ++ hid2
          rw [List.mem_append]
          exact ⟨.inr, fun h => h.elim (fun q => absurd q c1) id⟩
      | _ => cases hb
def spNa : Sp := fun vs H Q _ => ∃ (m : Me) (pw ln : Addr) (us : List V), vs = [.ref pw, .ref ln] ∧ H pw = some (.tup (wsV m.ps)) ∧ H ln = some (.lst us) ∧ AtL AtR H (gM m) us ∧ m.ps.length ≤ 3 ∧ gdM m ∧ nSs m.ss ≤ 1100 ∧ ∀ H' p, Same H H' → H' p = some (.tup (wsV (namesM m))) → Q (.ref p) H'
theorem scNa : FnScope ["parameters", "nodes", "names", "node", "code", "word"] ["parameters", "nodes"] (defScope sNa) := ⟨rfl, rfl, rfl, by decide +kernel, rfl, by decide +kernel, by decide +kernel⟩
theorem c_na (TS : TxS K mg) (gL : mg "list" = none) (D : Dn K mg "names_among" sNa) (SW : C0 P w K mg base 1 "set_word" spSw) (IP : C0 P w K mg base 1 "is_parameter" spIp) : C0 P w K mg base 2 "names_among" spNa := by
  obtain ⟨f, fd, F, hmm⟩ := D.ex
  refine ⟨f, fd, ["parameters", "nodes"], F.ok scNa (fun vs H Q E h => ?_) (fun cdv A outer s H vs Q E hr h => ?_), hmm, F.kp, F.binds (ps := ["parameters", "nodes"]) fun _ _ _ _ _ _ us hl => match us, hl with | [_, _], _ => rfl⟩
  · obtain ⟨m, pw, ln, us, rfl, _⟩ := h
    rfl
  obtain ⟨m, pw, ln, us, rfl, hpw, hln, at1, hps, hok, hns, kq⟩ := h
  refine ⟨_, pss_cons (ps_set (i := 2) scNa.nd rfl (Or.inl rfl) (pe_callTy call_list_of (by rfl) gL (by decide +kernel) (pa_cons (pv 0) pa_nil))) <|
    pss_cons (ps_for PassesOwn.never rfl (pi_list (pv 1)) (pg_tup (by rfl) (pgs_cons (pg_name (i := 3) scNa.nd rfl (Or.inl rfl)) (pgs_cons (pg_name (i := 4) scNa.nd rfl (Or.inl rfl)) pgs_nil)))
      (pss_cons (ps_set (i := 5) scNa.nd rfl (Or.inl rfl) (pe_cc SW hr (by decide) pass0 (pa_cons (pv 3) pa_nil))) <|
        pss_one (ps_if (PW.pt (pw_and (pt_cmpR op_notN (pv 5) pe_non (nomark _)) (pw_and (pt_cmpR op_notIn_seq (pv 5) (pv 2) (by rfl)) (pw_and1 (pt_not (pt_val (pe_cc IP hr (by decide) pass0 (pa_cons (pv 1) (pa_cons (pv 4) (pa_cons (pv 5) pa_nil)))))))))) (pss_one (ps_expr (pe_bm PySem.F.plainAttrs_list PySem.F.slot_list_append PySem.F.type_list_append mt_append (pv 2) (pa_cons (pv 5) pa_nil)))) pss_nil))) <|
    pss_one (ps_ret (pe_callTy call_tuple_of (by rfl) TS.tup (by decide +kernel) (pa_cons (pv 2) pa_nil))), ?_⟩
  generalize H = H1 at hpw hln at1 kq ⊢
  refine ⟨_, rfl, pw, _, rfl, .inr (SqT.of hpw), fun nl hnl => ?_⟩
  have hne : ln ≠ nl := fun e => by rw [e, hnl] at hln; cases hln
  have hgl := gM_len hok
  have hul : us.length = (gM m).length := at1.len
  refine ⟨_, rfl, ln, rfl, ⟨us, SqL.of (same_new hnl _ _ _ hln)⟩, ?_⟩
  refine for_list (xs := us) (fun i σ H2 => ∃ (v5 v6 v7 : Option V) (fs : List T), σ = [some (.ref pw), some (.ref ln), some (.ref nl), v5, v6, v7] ∧ Same H1 H2 ∧ H2 nl = some (.lst (wsV fs)) ∧ fs.length ≤ 3 + i ∧ Names (gM m) ((gM m).drop i) fs (namesM m)) ⟨none, none, none, m.ps, rfl, same_new hnl _, upd_same, by have := hps; omega, names_all hok⟩ (fun i σ H2 _ ⟨_, _, _, _, _, s2, _⟩ => SqL.of (s2 _ _ hln)) ?_ ?_
  · rintro i u σ H2 hu ⟨v5, v6, v7, fs, rfl, s2, hnl2, hfl, hN⟩
    have hi : i < us.length := (List.getElem?_eq_some_iff.mp hu).1
    have at2 := AtL.on (same_tups s2) (fun _ _ h => AtR.on (same_tups s2) h) at1
    obtain ⟨x, hx1, hx2⟩ := at2.get hu
    obtain ⟨n, c⟩ := x
    obtain ⟨p, vn, rfl, hp, hvn⟩ := hx2
    have hin : i < (gM m).length := by omega
    have ed : (gM m).drop i = (n, c) :: (gM m).drop (i + 1) := by
      rw [List.drop_eq_getElem_cons hin]
      congr 1
      have := List.getElem?_eq_getElem hin
      rw [hx1] at this
      exact (Option.some.inj this).symm
    rw [ed] at hN
    cases hN with
    | @cons _ _ _ hid _ _ hh hN' =>
    have hokn : gdN n := gM_gd hok _ (List.mem_of_getElem? hx1)
    refine ⟨p, _, rfl, SqT.of hp, rfl, _, _, rfl, _, _, rfl, rfl, ?_⟩
    refine ⟨_, rfl, n, _, rfl, hvn, hokn, ?_⟩
    have hal := addN_len n hid fs
    cases ec : nameN n with
    | none =>
      have en : nameV n = .non := by unfold nameV; rw [ec]
      have ea : addN n hid fs = fs := by unfold addN; rw [ec]
      rw [ea] at hN'
      rw [en]
      refine ⟨_, rfl, rfl, _, rfl, ?_⟩
      refine ite2 (fun c => absurd c (by decide)) (fun _ => ?_)
      refine ite2 (fun c => absurd c (by decide)) (fun _ => ?_)
      exact ⟨_, _, _, fs, rfl, s2, hnl2, by omega, hN'⟩
    | some z =>
      have en : nameV n = .str (mk z) := by unfold nameV; rw [ec]
      rw [en]
      refine ⟨_, rfl, rfl, _, rfl, ?_⟩
      refine ite2 (fun _ => ?_) (fun c => absurd (by simp) c)
      refine ⟨_, rfl, _, rfl, nl, _, rfl, .inl (SqL.of hnl2), rfl, flat_ws _, _, rfl, ?_⟩
      show if (!inV (.str (mk z)) (wsV fs)) = true then _ else _
      rw [in_ws]
      by_cases c1 : z ∈ fs
      · have ea : addN n hid fs = fs := by unfold addN; rw [ec]; exact if_pos (.inr c1)
        rw [ea] at hN'
        rw [decide_eq_true c1]
        refine ite2 (fun c => absurd c (by decide)) (fun _ => ?_)
        refine ite2 (fun c => absurd c (by decide)) (fun _ => ?_)
        exact ⟨_, _, _, fs, rfl, s2, hnl2, by omega, hN'⟩
      rw [decide_eq_false c1]
      refine ite2 (fun _ => ?_) (fun c => absurd rfl c)
      refine ⟨_, rfl, _, rfl, _, rfl, ln, us, gM m, c, hid, z, rfl, s2 _ _ hln, at2, hh, _, rfl, ?_⟩
      by_cases c2 : z ∈ hid
      · have ea : addN n hid fs = fs := by unfold addN; rw [ec]; exact if_pos (.inl c2)
        rw [ea] at hN'
        rw [decide_eq_true c2]
        refine ite2 (fun c => absurd c (by decide)) (fun _ => ?_)
        exact ⟨_, _, _, fs, rfl, s2, hnl2, by omega, hN'⟩
      have ea : addN n hid fs = fs ++ [z] := by unfold addN; rw [ec]; exact if_neg fun c => c.elim c2 c1
      rw [ea] at hN' hal
      rw [decide_eq_false c2]
      refine ite2 (fun _ => ?_) (fun c => absurd rfl c)
      refine ⟨_, rfl, .inl ⟨rfl, _, SqL.of hnl2⟩, _, rfl, nl, _, _, rfl, rfl, hnl2, by rw [wsV_len, sizeLine_eq]; omega, ?_⟩
      refine ⟨_, _, _, fs ++ [z], rfl, fun b o hb => by rw [upd_ne (ne_of_none hb hnl)]; exact s2 _ _ hb, by rw [upd_same, ← wsV_app]; rfl, by omega, hN'⟩
  rintro σ H2 ⟨v5, v6, v7, fs, rfl, s2, hnl2, hfl, hN⟩
  have e0 : (gM m).drop us.length = [] := List.drop_eq_nil_of_le (by omega)
  rw [e0] at hN
  cases hN with
  | nil =>
  refine ⟨_, rfl, nl, _, rfl, .inl ⟨SqL.of hnl2, fun tp htp => ?_⟩⟩
  exact kq _ tp (s2.trans (same_new htp _)) upd_same
theorem scNm : FnScope ["method", "_", "parameters"] ["method"] (defScope sNo) := ⟨rfl, rfl, rfl, by decide +kernel, rfl, by decide +kernel, by decide +kernel⟩
theorem c_nm (D : Dn K mg "names_of" sNo) (NC : C0 P w K mg base 2 "nodes_with_codes" spNc) (NA : C0 P w K mg base 2 "names_among" spNa) : C0 P w K mg base 3 "names_of" spNm := by
  obtain ⟨f, fd, F, hmm⟩ := D.ex
  refine ⟨f, fd, ["method"], F.ok scNm (fun vs H Q E h => ?_) (fun cdv A outer s H vs Q E hr h => ?_), hmm, F.kp, F.binds (ps := ["method"]) fun _ _ _ _ _ _ us hl => match us, hl with | [_], _ => rfl⟩
  · obtain ⟨n, v, rfl, _⟩ := h
    rfl
  obtain ⟨m, v, rfl, hat, hps, hgd, ho, hns, kq⟩ := h
  have hok : gdM m := ⟨hps, hgd, ho⟩
  refine ⟨_, pss_cons (ps_asg (pv 0) (pg_tup (by rfl) (pgs_cons (pg_name (i := 1) scNm.nd rfl (Or.inl rfl)) (pgs_cons (pg_name (i := 1) scNm.nd rfl (Or.inl rfl)) (pgs_cons (pg_name (i := 2) scNm.nd rfl (Or.inl rfl)) (pgs_cons (pg_name (i := 1) scNm.nd rfl (Or.inl rfl)) pgs_nil)))))) <|
    pss_one (ps_ret (pe_cc NA hr (by decide) pass0 (pa_cons (pv 2) (pa_cons (pe_cc NC hr (by decide) pass0 (pa_cons (pv 0) pa_nil)) pa_nil)))), ?_⟩
  have hat0 := hat
  obtain ⟨pm, vw, q, ys, rfl, hm1, hm2, hm3, hm4⟩ := hat0
  obtain ⟨pw, rfl, hpw⟩ := hm2
  refine ⟨_, rfl, pm, _, rfl, SqT.of hm1, rfl, _, _, rfl, _, _, rfl, _, _, rfl, _, _, rfl, rfl, ?_⟩
  refine ⟨_, rfl, _, rfl, m, _, rfl, hat, hok, hns, fun H1 ln us s1 hln at1 => ?_⟩
  exact ⟨m, pw, ln, us, rfl, s1 _ _ hpw, hln, at1, hps, hok, hns, fun H2 p s2 hp => kq H2 p (s1.trans s2) hp⟩
end
end My
set_option Elab.async false
set_option linter.all false
set_option maxRecDepth 100000
set_option maxHeartbeats 8000000
namespace My
open PySem L2 SS
theorem vals_strs : ∀ (zs : List Str) (us : List Value), us.map (fun u => match u with | .str z _ => some z | _ => none) = zs.map some → Vals (zs.map V.str) us
  | [], [], _ => .nil
  | [], u :: us, h => by simp at h
  | z :: zs, [], h => by simp at h
  | z :: zs, u :: us, h => by
    rw [List.map_cons, List.map_cons] at h
    injection h with h1 h2
    refine .cons ?_ (vals_strs zs us h2)
    cases u with
    | str y t =>
      obtain rfl := Option.some.inj h1
      exact ⟨t, rfl⟩
    | _ => cases h1
theorem exm_self {K : PySem.W.Frag} {S : Addr} (h1 : PySem.W.subIn K (.ref S) (.type "BaseException") = some true) (h2 : PySem.W.isClsIn K S = true) (h3 : PySem.W.typeIn K (.ref S) = some (.type "type")) (h4 : PySem.W.subIn K (.ref S) (.ref S) = some true) :
    PySem.W.exmOne K (.ref S) (.ref S) = some true := by
  have e1 : (PySem.W.subIn K (.ref S) (.type "BaseException") == some true) = true := by rw [h1] <;> rfl
  have e2 : ((PySem.W.clsIn K S).isSome && PySem.W.typeIn K (.ref S) == some (.type "type")) = true := by
    have h2' : (PySem.W.clsIn K S).isSome = true := h2
    rw [h2', h3] <;> rfl
  show (if (PySem.W.subIn K (.ref S) (.type "BaseException") == some true) = true then (if ((PySem.W.clsIn K S).isSome && PySem.W.typeIn K (.ref S) == some (.type "type")) = true then PySem.W.subIn K (.ref S) (.ref S) else none) else none) = some true
  rw [if_pos e1, if_pos e2]
  exact h4
/-- two defs of two names stand at two places -/
def nameAt : Option Obj → Str
  | some ⟨_, _, .func fd, _⟩ => fd.name
  | _ => ""
theorem two_places {o1 o2 : Option Obj} (h : nameAt o1 ≠ nameAt o2) : o1 ≠ o2 := fun e => h (by rw [e])
section
variable {P : Program} {w : World} {K : PySem.W.Frag} {mg : Str → Option Value} {base : Heap}
theorem Cc.mono {CX : CXT} {j k : Nat} {x : Str} {sp : Sp} (h : Cc P w K mg base CX j x sp) (hk : j ≤ k) : Cc P w K mg base CX k x sp := by
  obtain ⟨f, fd, ps, F, r⟩ := h.ex
  exact ⟨f, fd, ps, F.mono hk, r⟩
end
theorem all_mk {l : PySem.W.OpenLaw} {w : World} {K : PySem.W.Frag} {h : Heap} {mg : Str → Option Value} {fa : Addr} (X : K.In h) (G : h.Ns mainGlobals mg) (hfa : mg "law" = some (.ref fa))
    {f0 : Addr} {oc0 kV0 dc0 pm0 cd0 ct0 : Value} {od0 an0 : Option Addr} {sl0 : Array (Option Value)}
    {f1 : Addr} {oc1 kV1 dc1 pm1 cd1 ct1 : Value} {od1 an1 : Option Addr} {sl1 : Array (Option Value)}
    {f2 : Addr} {oc2 kV2 dc2 pm2 cd2 ct2 : Value} {od2 an2 : Option Addr} {sl2 : Array (Option Value)}
    {f3 : Addr} {oc3 kV3 dc3 pm3 cd3 ct3 : Value} {od3 an3 : Option Addr} {sl3 : Array (Option Value)}
    {f4 : Addr} {oc4 kV4 dc4 pm4 cd4 ct4 : Value} {od4 an4 : Option Addr} {sl4 : Array (Option Value)}
    {f5 : Addr} {oc5 kV5 dc5 pm5 cd5 ct5 : Value} {od5 an5 : Option Addr} {sl5 : Array (Option Value)}
    {f6 : Addr} {oc6 kV6 dc6 pm6 cd6 ct6 : Value} {od6 an6 : Option Addr} {sl6 : Array (Option Value)}
    {f7 : Addr} {oc7 kV7 dc7 pm7 cd7 ct7 : Value} {od7 an7 : Option Addr} {sl7 : Array (Option Value)}
    {f8 : Addr} {oc8 kV8 dc8 pm8 cd8 ct8 : Value} {od8 an8 : Option Addr} {sl8 : Array (Option Value)}
    {f9 : Addr} {oc9 kV9 dc9 pm9 cd9 ct9 : Value} {od9 an9 : Option Addr} {sl9 : Array (Option Value)}
    {f10 : Addr} {oc10 kV10 dc10 pm10 cd10 ct10 : Value} {od10 an10 : Option Addr} {sl10 : Array (Option Value)}
    {f11 : Addr} {oc11 kV11 dc11 pm11 cd11 ct11 : Value} {od11 an11 : Option Addr} {sl11 : Array (Option Value)}
    {f12 : Addr} {oc12 kV12 dc12 pm12 cd12 ct12 : Value} {od12 an12 : Option Addr} {sl12 : Array (Option Value)}
    {f13 : Addr} {oc13 kV13 dc13 pm13 cd13 ct13 : Value} {od13 an13 : Option Addr} {sl13 : Array (Option Value)}
    {f14 : Addr} {oc14 kV14 dc14 pm14 cd14 ct14 : Value} {od14 an14 : Option Addr} {sl14 : Array (Option Value)}
    {f15 : Addr} {oc15 kV15 dc15 pm15 cd15 ct15 : Value} {od15 an15 : Option Addr} {sl15 : Array (Option Value)}
    {f16 : Addr} {oc16 kV16 dc16 pm16 cd16 ct16 : Value} {od16 an16 : Option Addr} {sl16 : Array (Option Value)}
    {f17 : Addr} {oc17 kV17 dc17 pm17 cd17 ct17 : Value} {od17 an17 : Option Addr} {sl17 : Array (Option Value)}
    {tmc : Tok}
    (a0 : PySem.W.nsIn K mainGlobals "names_of" = some (some (.ref f0)))
    (l0 : K.lookup f0 = some ⟨oc0, od0, .func (PySem.W.fnOf "names_of" "names_of" (defArgs sNo) (defBody sNo) (defScope sNo) .none kV0 dc0 pm0 an0 cd0 ct0), sl0⟩)
    (c0 : PySem.W.codeIn K cd0 "names_of" = true)
    (k0 : PySem.W.keepIn K (.ref f0) = true)
    (a1 : PySem.W.nsIn K mainGlobals "names_among" = some (some (.ref f1)))
    (l1 : K.lookup f1 = some ⟨oc1, od1, .func (PySem.W.fnOf "names_among" "names_among" (defArgs sNa) (defBody sNa) (defScope sNa) .none kV1 dc1 pm1 an1 cd1 ct1), sl1⟩)
    (c1 : PySem.W.codeIn K cd1 "names_among" = true)
    (k1 : PySem.W.keepIn K (.ref f1) = true)
    (a2 : PySem.W.nsIn K mainGlobals "nodes_with_codes" = some (some (.ref f2)))
    (l2 : K.lookup f2 = some ⟨oc2, od2, .func (PySem.W.fnOf "nodes_with_codes" "nodes_with_codes" (defArgs sNc) (defBody sNc) (defScope sNc) .none kV2 dc2 pm2 an2 cd2 ct2), sl2⟩)
    (c2 : PySem.W.codeIn K cd2 "nodes_with_codes" = true)
    (k2 : PySem.W.keepIn K (.ref f2) = true)
    (a3 : PySem.W.nsIn K mainGlobals "parts_of" = some (some (.ref f3)))
    (l3 : K.lookup f3 = some ⟨oc3, od3, .func (PySem.W.fnOf "parts_of" "parts_of" (defArgs sPt) (defBody sPt) (defScope sPt) .none kV3 dc3 pm3 an3 cd3 ct3), sl3⟩)
    (c3 : PySem.W.codeIn K cd3 "parts_of" = true)
    (k3 : PySem.W.keepIn K (.ref f3) = true)
    (a4 : PySem.W.nsIn K mainGlobals "set_word" = some (some (.ref f4)))
    (l4 : K.lookup f4 = some ⟨oc4, od4, .func (PySem.W.fnOf "set_word" "set_word" (defArgs sSw) (defBody sSw) (defScope sSw) .none kV4 dc4 pm4 an4 cd4 ct4), sl4⟩)
    (c4 : PySem.W.codeIn K cd4 "set_word" = true)
    (k4 : PySem.W.keepIn K (.ref f4) = true)
    (a5 : PySem.W.nsIn K mainGlobals "is_parameter" = some (some (.ref f5)))
    (l5 : K.lookup f5 = some ⟨oc5, od5, .func (PySem.W.fnOf "is_parameter" "is_parameter" (defArgs sIp) (defBody sIp) (defScope sIp) .none kV5 dc5 pm5 an5 cd5 ct5), sl5⟩)
    (c5 : PySem.W.codeIn K cd5 "is_parameter" = true)
    (k5 : PySem.W.keepIn K (.ref f5) = true)
    (a6 : PySem.W.nsIn K mainGlobals "_law_deck" = some (some (.ref f6)))
    (l6 : K.lookup f6 = some ⟨oc6, od6, .func (PySem.W.fnOf "_law_deck" "_law_deck" (defArgs sDeck) (defBody sDeck) (defScope sDeck) .none kV6 dc6 pm6 an6 cd6 ct6), sl6⟩)
    (c6 : PySem.W.codeIn K cd6 "_law_deck" = true)
    (k6 : PySem.W.keepIn K (.ref f6) = true)
    (a7 : PySem.W.nsIn K mainGlobals "_law_next" = some (some (.ref f7)))
    (l7 : K.lookup f7 = some ⟨oc7, od7, .func (PySem.W.fnOf "_law_next" "_law_next" (defArgs sNext) (defBody sNext) (defScope sNext) .none kV7 dc7 pm7 an7 cd7 ct7), sl7⟩)
    (c7 : PySem.W.codeIn K cd7 "_law_next" = true)
    (k7 : PySem.W.keepIn K (.ref f7) = true)
    (a8 : PySem.W.nsIn K mainGlobals "_law_word" = some (some (.ref f8)))
    (l8 : K.lookup f8 = some ⟨oc8, od8, .func (PySem.W.fnOf "_law_word" "_law_word" (defArgs sLWord) (defBody sLWord) (defScope sLWord) .none kV8 dc8 pm8 an8 cd8 ct8), sl8⟩)
    (c8 : PySem.W.codeIn K cd8 "_law_word" = true)
    (k8 : PySem.W.keepIn K (.ref f8) = true)
    (a9 : PySem.W.nsIn K mainGlobals "_law_name" = some (some (.ref f9)))
    (l9 : K.lookup f9 = some ⟨oc9, od9, .func (PySem.W.fnOf "_law_name" "_law_name" (defArgs sLName) (defBody sLName) (defScope sLName) .none kV9 dc9 pm9 an9 cd9 ct9), sl9⟩)
    (c9 : PySem.W.codeIn K cd9 "_law_name" = true)
    (k9 : PySem.W.keepIn K (.ref f9) = true)
    (a10 : PySem.W.nsIn K mainGlobals "_law_leaf" = some (some (.ref f10)))
    (l10 : K.lookup f10 = some ⟨oc10, od10, .func (PySem.W.fnOf "_law_leaf" "_law_leaf" (defArgs sLLeaf) (defBody sLLeaf) (defScope sLLeaf) .none kV10 dc10 pm10 an10 cd10 ct10), sl10⟩)
    (c10 : PySem.W.codeIn K cd10 "_law_leaf" = true)
    (k10 : PySem.W.keepIn K (.ref f10) = true)
    (a11 : PySem.W.nsIn K mainGlobals "_law_es" = some (some (.ref f11)))
    (l11 : K.lookup f11 = some ⟨oc11, od11, .func (PySem.W.fnOf "_law_es" "_law_es" (defArgs sGEs) (defBody sGEs) (defScope sGEs) .none kV11 dc11 pm11 an11 cd11 ct11), sl11⟩)
    (c11 : PySem.W.codeIn K cd11 "_law_es" = true)
    (k11 : PySem.W.keepIn K (.ref f11) = true)
    (a12 : PySem.W.nsIn K mainGlobals "_law_e" = some (some (.ref f12)))
    (l12 : K.lookup f12 = some ⟨oc12, od12, .func (PySem.W.fnOf "_law_e" "_law_e" (defArgs sGE) (defBody sGE) (defScope sGE) .none kV12 dc12 pm12 an12 cd12 ct12), sl12⟩)
    (c12 : PySem.W.codeIn K cd12 "_law_e" = true)
    (k12 : PySem.W.keepIn K (.ref f12) = true)
    (a13 : PySem.W.nsIn K mainGlobals "_law_body" = some (some (.ref f13)))
    (l13 : K.lookup f13 = some ⟨oc13, od13, .func (PySem.W.fnOf "_law_body" "_law_body" (defArgs sGB) (defBody sGB) (defScope sGB) .none kV13 dc13 pm13 an13 cd13 ct13), sl13⟩)
    (c13 : PySem.W.codeIn K cd13 "_law_body" = true)
    (k13 : PySem.W.keepIn K (.ref f13) = true)
    (a14 : PySem.W.nsIn K mainGlobals "_law_statement" = some (some (.ref f14)))
    (l14 : K.lookup f14 = some ⟨oc14, od14, .func (PySem.W.fnOf "_law_statement" "_law_statement" (defArgs sGS) (defBody sGS) (defScope sGS) .none kV14 dc14 pm14 an14 cd14 ct14), sl14⟩)
    (c14 : PySem.W.codeIn K cd14 "_law_statement" = true)
    (k14 : PySem.W.keepIn K (.ref f14) = true)
    (a15 : PySem.W.nsIn K mainGlobals "_law_method" = some (some (.ref f15)))
    (l15 : K.lookup f15 = some ⟨oc15, od15, .func (PySem.W.fnOf "_law_method" "_law_method" (defArgs sGM) (defBody sGM) (defScope sGM) .none kV15 dc15 pm15 an15 cd15 ct15), sl15⟩)
    (c15 : PySem.W.codeIn K cd15 "_law_method" = true)
    (k15 : PySem.W.keepIn K (.ref f15) = true)
    (a16 : PySem.W.nsIn K mainGlobals "_law_within" = some (some (.ref f16)))
    (l16 : K.lookup f16 = some ⟨oc16, od16, .func (PySem.W.fnOf "_law_within" "_law_within" (defArgs sWi) (defBody sWi) (defScope sWi) .none kV16 dc16 pm16 an16 cd16 ct16), sl16⟩)
    (c16 : PySem.W.codeIn K cd16 "_law_within" = true)
    (k16 : PySem.W.keepIn K (.ref f16) = true)
    (a17 : PySem.W.nsIn K mainGlobals "law" = some (some (.ref f17)))
    (l17 : K.lookup f17 = some ⟨oc17, od17, .func (PySem.W.fnOf "law" "law" (defArgs sLaw) (defBody sLaw) (defScope sLaw) .none kV17 dc17 pm17 an17 cd17 ct17), sl17⟩)
    (c17 : PySem.W.codeIn K cd17 "law" = true)
    (k17 : PySem.W.keepIn K (.ref f17) = true)
    (zlen : PySem.W.nsIn K mainGlobals "len" = some none)
    (zall : PySem.W.nsIn K mainGlobals "all" = some none)
    (zmin : PySem.W.nsIn K mainGlobals "min" = some none)
    (ztuple : PySem.W.nsIn K mainGlobals "tuple" = some none)
    (zint : PySem.W.nsIn K mainGlobals "int" = some none)
    (zstr : PySem.W.nsIn K mainGlobals "str" = some none)
    (zenumerate : PySem.W.nsIn K mainGlobals "enumerate" = some none)
    (zrange : PySem.W.nsIn K mainGlobals "range" = some none)
    (zisinstance : PySem.W.nsIn K mainGlobals "isinstance" = some none)
    (zlist : PySem.W.nsIn K mainGlobals "list" = some none)
    (vmc : PySem.W.nsIn K mainGlobals "METHOD_CODE" = some (some (.int (-1) tmc)))
    : ∃ fd : FuncData, (∀ (s : Shared) (v : Value), BindsTo s fd ⟨[v], []⟩ [("_law_script", v)]) ∧ ∀ base : Heap, K.In base → base.Ns mainGlobals mg → FnOk l.prog w K mg base CX0 90 fa fd ["_law_script"] (spLaw K) := by
  have e := hfa.symm.trans (PySem.W.mg_of X G a17)
  cases e
  have D0 : Dn K mg "names_of" sNo := ⟨⟨f0, _, fun_mk l0 c0 k0, PySem.W.mg_of X G a0⟩⟩
  have D1 : Dn K mg "names_among" sNa := ⟨⟨f1, _, fun_mk l1 c1 k1, PySem.W.mg_of X G a1⟩⟩
  have D2 : Dn K mg "nodes_with_codes" sNc := ⟨⟨f2, _, fun_mk l2 c2 k2, PySem.W.mg_of X G a2⟩⟩
  have D3 : Dn K mg "parts_of" sPt := ⟨⟨f3, _, fun_mk l3 c3 k3, PySem.W.mg_of X G a3⟩⟩
  have D4 : Dn K mg "set_word" sSw := ⟨⟨f4, _, fun_mk l4 c4 k4, PySem.W.mg_of X G a4⟩⟩
  have D5 : Dn K mg "is_parameter" sIp := ⟨⟨f5, _, fun_mk l5 c5 k5, PySem.W.mg_of X G a5⟩⟩
  have D6 : Dn K mg "_law_deck" sDeck := ⟨⟨f6, _, fun_mk l6 c6 k6, PySem.W.mg_of X G a6⟩⟩
  have D7 : Dn K mg "_law_next" sNext := ⟨⟨f7, _, fun_mk l7 c7 k7, PySem.W.mg_of X G a7⟩⟩
  have D8 : Dn K mg "_law_word" sLWord := ⟨⟨f8, _, fun_mk l8 c8 k8, PySem.W.mg_of X G a8⟩⟩
  have D9 : Dn K mg "_law_name" sLName := ⟨⟨f9, _, fun_mk l9 c9 k9, PySem.W.mg_of X G a9⟩⟩
  have D10 : Dn K mg "_law_leaf" sLLeaf := ⟨⟨f10, _, fun_mk l10 c10 k10, PySem.W.mg_of X G a10⟩⟩
  have D11 : Dn K mg "_law_es" sGEs := ⟨⟨f11, _, fun_mk l11 c11 k11, PySem.W.mg_of X G a11⟩⟩
  have D12 : Dn K mg "_law_e" sGE := ⟨⟨f12, _, fun_mk l12 c12 k12, PySem.W.mg_of X G a12⟩⟩
  have D13 : Dn K mg "_law_body" sGB := ⟨⟨f13, _, fun_mk l13 c13 k13, PySem.W.mg_of X G a13⟩⟩
  have D14 : Dn K mg "_law_statement" sGS := ⟨⟨f14, _, fun_mk l14 c14 k14, PySem.W.mg_of X G a14⟩⟩
  have D15 : Dn K mg "_law_method" sGM := ⟨⟨f15, _, fun_mk l15 c15 k15, PySem.W.mg_of X G a15⟩⟩
  have D16 : Dn K mg "_law_within" sWi := ⟨⟨f16, _, fun_mk l16 c16 k16, PySem.W.mg_of X G a16⟩⟩
  have TS : TxS K mg := ⟨PySem.W.mg_none_of X G zlen, PySem.W.mg_none_of X G zall, PySem.W.mg_none_of X G zmin, PySem.W.mg_none_of X G ztuple, PySem.W.mg_none_of X G zint, PySem.W.mg_none_of X G zstr, PySem.W.mg_none_of X G zenumerate⟩
  have TL_ : TxL mg := ⟨PySem.W.mg_none_of X G zrange, PySem.W.mg_none_of X G zmin⟩
  have gMC : GI mg "METHOD_CODE" (-1) := ⟨_, PySem.W.mg_of X G vmc, ⟨_, rfl⟩⟩
  refine ⟨PySem.W.fnOf "law" "law" (defArgs sLaw) (defBody sLaw) (defScope sLaw) .none kV17 dc17 pm17 an17 cd17 ct17, fun s v => .of_eq rfl, fun base _ _ => ?_⟩
  have GD : C0 l.prog w K mg base 1 "_law_deck" (spDeck K) := c_deck TS TL_ D6
  have GN : C0 l.prog w K mg base 1 "_law_next" spNext := c_next TS D7
  have Glw : C0 l.prog w K mg base 1 "_law_word" (spLWord isFree) := c_lword D8
  have Gln : C0 l.prog w K mg base 1 "_law_name" (spLWord isKindName) := c_lname D9
  have Gll : C0 l.prog w K mg base 2 "_law_leaf" spLLeaf := c_lleaf Glw Gln D10
  have GB : ∀ d, d ≤ 12 → C0 l.prog w K mg base 42 "_law_body" (spGB d) := fun d hd => by
    obtain ⟨_, _, GB⟩ := gen_all (P := l.prog) (w := w) (base := base) TS TL_ D12 D11 D13 D14 GN Glw Gll d
    exact GB.mono (by omega)
  have GM : C0 l.prog w K mg base 43 "_law_method" spGMx := c_gmx (k := 42) (by decide) TS TL_ D15 GN Glw GB
  have GG : C0 l.prog w K mg base 27 "_law_within" (spWi 26) := knotWi (PySem.W.mg_none_of X G zlist) D16 26
  have PP : C0 l.prog w K mg base 1 "parts_of" spPt := c_pt D3
  have NC : C0 l.prog w K mg base 2 "nodes_with_codes" spNc := c_nc TS gMC D2 PP
  have SW : C0 l.prog w K mg base 1 "set_word" spSw := c_sw D4
  have IP : C0 l.prog w K mg base 1 "is_parameter" spIp := c_ip gMC D5
  have NA : C0 l.prog w K mg base 2 "names_among" spNa := c_na TS (PySem.W.mg_none_of X G zlist) D1 SW IP
  have NM : C0 l.prog w K mg base 3 "names_of" spNm := c_nm D0 NC NA
  exact ok_law (fun_mk l17 c17 k17) TS TL_ (PySem.W.mg_none_of X G zisinstance) (PySem.W.mg_none_of X G zlist) GD GN (GM.mono (by decide)) (GG.mono (by decide)) (NM.mono (by decide))
end My
open PySem PySem.W PyProof.Rows in
set_option maxRecDepth 100000 in
set_option maxHeartbeats 0 in
theorem PySem.Challenge.cw_sendstead_k07_names_holds : PySem.Challenge.rw_sendstead_k07_names.Holds := by
  w_on; o_law; k_head; (case hw => w_witness2)
  k_fill
  refine L2.walk_of (l := PySem.Challenge.rw_sendstead_k07_names) (n := 63) (k := 90) (x := "_law_script") (CX := fun _ => L2.CX0) (sp := fun w => My.spLaw _) rfl (by decide) rfl ⟨rfl, by decide, by decide⟩ (fun w h Y => PySem.W.kIn_of Y) ?F (fun _ _ a ns hl _ hS => ⟨a, ns, rfl, hS, hl, fun _ => rfl⟩) fun _ _ _ _ _ z => z
  case F =>
    intro w mg fa h KX G hmg
    refine' My.all_mk KX G hmg ?a0 ?l0 ?c0 ?k0 ?a1 ?l1 ?c1 ?k1 ?a2 ?l2 ?c2 ?k2 ?a3 ?l3 ?c3 ?k3 ?a4 ?l4 ?c4 ?k4 ?a5 ?l5 ?c5 ?k5 ?a6 ?l6 ?c6 ?k6 ?a7 ?l7 ?c7 ?k7 ?a8 ?l8 ?c8 ?k8 ?a9 ?l9 ?c9 ?k9 ?a10 ?l10 ?c10 ?k10 ?a11 ?l11 ?c11 ?k11 ?a12 ?l12 ?c12 ?k12 ?a13 ?l13 ?c13 ?k13 ?a14 ?l14 ?c14 ?k14 ?a15 ?l15 ?c15 ?k15 ?a16 ?l16 ?c16 ?k16 ?a17 ?l17 ?c17 ?k17 ?zlen ?zall ?zmin ?ztuple ?zint ?zstr ?zenumerate ?zrange ?zisinstance ?zlist ?vmc
    (case a0 => k_is)
    (case l0 => k_is)
    (case c0 => k_is)
    (case k0 => k_is)
    (case a1 => k_is)
    (case l1 => k_is)
    (case c1 => k_is)
    (case k1 => k_is)
    (case a2 => k_is)
    (case l2 => k_is)
    (case c2 => k_is)
    (case k2 => k_is)
    (case a3 => k_is)
    (case l3 => k_is)
    (case c3 => k_is)
    (case k3 => k_is)
    (case a4 => k_is)
    (case l4 => k_is)
    (case c4 => k_is)
    (case k4 => k_is)
    (case a5 => k_is)
    (case l5 => k_is)
    (case c5 => k_is)
    (case k5 => k_is)
    (case a6 => k_is)
    (case l6 => k_is)
    (case c6 => k_is)
    (case k6 => k_is)
    (case a7 => k_is)
    (case l7 => k_is)
    (case c7 => k_is)
    (case k7 => k_is)
    (case a8 => k_is)
    (case l8 => k_is)
    (case c8 => k_is)
    (case k8 => k_is)
    (case a9 => k_is)
    (case l9 => k_is)
    (case c9 => k_is)
    (case k9 => k_is)
    (case a10 => k_is)
    (case l10 => k_is)
    (case c10 => k_is)
    (case k10 => k_is)
    (case a11 => k_is)
    (case l11 => k_is)
    (case c11 => k_is)
    (case k11 => k_is)
    (case a12 => k_is)
    (case l12 => k_is)
    (case c12 => k_is)
    (case k12 => k_is)
    (case a13 => k_is)
    (case l13 => k_is)
    (case c13 => k_is)
    (case k13 => k_is)
    (case a14 => k_is)
    (case l14 => k_is)
    (case c14 => k_is)
    (case k14 => k_is)
    (case a15 => k_is)
    (case l15 => k_is)
    (case c15 => k_is)
    (case k15 => k_is)
    (case a16 => k_is)
    (case l16 => k_is)
    (case c16 => k_is)
    (case k16 => k_is)
    (case a17 => k_is)
    (case l17 => k_is)
    (case c17 => k_is)
    (case k17 => k_is)
    (case zlen => k_is)
    (case zall => k_is)
    (case zmin => k_is)
    (case ztuple => k_is)
    (case zint => k_is)
    (case zstr => k_is)
    (case zenumerate => k_is)
    (case zrange => k_is)
    (case zisinstance => k_is)
    (case zlist => k_is)
    (case vmc => k_is)
